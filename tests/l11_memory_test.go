package tests

import (
	"fmt"
	"math"
	"slices"
	"testing"

	"loop.example/g00252/impl"
)

// guardedTree is a tree with marked room behind its nodes, behind the entries and kids of each, and behind all texts.
type guardedTree struct {
	t     impl.Tree
	want  impl.Tree
	whole impl.Tree
	texts []guarded
}

// guardTree lays three more nodes behind all, two more entries and kids behind those of each, and bytes behind each text.
func guardTree(t impl.Tree) *guardedTree {
	g := &guardedTree{whole: cloneTree(t)}
	g.whole.Nodes = append(g.whole.Nodes, leafOf(901), nodeOf([]int{0, 1}, 902), leafOf())
	for i := range g.whole.Nodes {
		n := &g.whole.Nodes[i]
		n.Entries = append(n.Entries, impl.Entry{Key: textItem("behind"), Id: 9}, entryOf(903, -1))
		n.Kids = append(n.Kids, 904, -905)
		for k := range n.Entries {
			of := guard(n.Entries[k].Key.T)
			g.texts = append(g.texts, of)
			n.Entries[k].Key.T = of.b
		}
	}
	g.want = cloneTree(g.whole)
	g.t = impl.Tree{Nodes: slices.Clone(g.whole.Nodes), Root: t.Root}
	for i := range g.t.Nodes {
		n := &g.t.Nodes[i]
		n.Entries, n.Kids = n.Entries[:len(n.Entries)-2], n.Kids[:len(n.Kids)-2]
	}
	g.t.Nodes = g.t.Nodes[:len(t.Nodes)]
	return g
}

// check fails when the tree, a list of it or the room behind one are not as they were.
func (g *guardedTree) check(t *testing.T, name string) {
	t.Helper()
	whole := impl.Tree{Root: g.t.Root}
	for _, n := range g.t.Nodes[:len(g.want.Nodes)] {
		whole.Nodes = append(whole.Nodes, impl.Node{Leaf: n.Leaf, Entries: n.Entries[:len(n.Entries)+2], Kids: n.Kids[:len(n.Kids)+2]})
	}
	if !sameTree(whole, g.want) {
		t.Errorf("%s: wrote into its tree or behind a list of it", name)
	}
	for _, b := range g.texts {
		b.check(t, name)
	}
}

func (g *guardedTree) spoil() {
	for _, b := range g.texts {
		spoil(b.b)
	}
	for _, n := range g.whole.Nodes {
		clear(n.Entries)
		spoilNumbers(n.Kids)
	}
	clear(g.t.Nodes)
}

// treeAnswer is what a call of the chapter answers, whichever it is.
type treeAnswer struct {
	t       impl.Tree
	entries []impl.Entry
	ids     []int
	ok      bool
}

func (a treeAnswer) clone() treeAnswer {
	return treeAnswer{t: cloneTree(a.t), entries: cloneEntries(a.entries), ids: slices.Clone(a.ids), ok: a.ok}
}

func (a treeAnswer) same(b treeAnswer) bool {
	return sameTree(a.t, b.t) && sameEntries(a.entries, b.entries) && slices.Equal(a.ids, b.ids) && a.ok == b.ok
}

// lists are all lists of entries and all lists of numbers of an answer, with the room behind them.
func (a treeAnswer) lists() ([][]impl.Entry, [][]int) {
	entries, numbers := [][]impl.Entry{a.entries[:cap(a.entries)]}, [][]int{a.ids[:cap(a.ids)]}
	for _, n := range a.t.Nodes[:cap(a.t.Nodes)] {
		entries = append(entries, n.Entries[:cap(n.Entries)])
		numbers = append(numbers, n.Kids[:cap(n.Kids)])
	}
	return entries, numbers
}

// wantApart writes into all lists of an answer, and looks whether one wrote over another.
func (a treeAnswer) wantApart(t *testing.T, name string) {
	t.Helper()
	entries, numbers := a.lists()
	var texts impl.Page
	for _, l := range entries {
		for _, e := range l {
			texts.Slots = append(texts.Slots, e.Key.T)
		}
	}
	wantSlotsApart(t, name, texts)
	for i := range entries {
		for k := range entries[i] {
			entries[i][k] = entryOf(i, k)
		}
		for k := range numbers[i] {
			numbers[i][k] = 1000*i + k
		}
	}
	for i := range entries {
		for k, e := range entries[i] {
			if !sameEntry(e, entryOf(i, k)) {
				t.Fatalf("%s: two lists of entries of the answer share memory", name)
			}
		}
		for k, n := range numbers[i] {
			if n != 1000*i+k {
				t.Fatalf("%s: two lists of numbers of the answer share memory", name)
			}
		}
	}
	clear(a.t.Nodes[:cap(a.t.Nodes)])
}

// treeCall is one call that takes a tree, two keys and an Id.
type treeCall struct {
	name string
	do   func(t impl.Tree, key impl.Item, to impl.Item, id int) treeAnswer
}

func treeCalls() []treeCall {
	return []treeCall{
		{"TreeNew", func(t impl.Tree, key impl.Item, to impl.Item, id int) treeAnswer {
			return treeAnswer{t: impl.TreeNew()}
		}},
		{"TreeOk", func(t impl.Tree, key impl.Item, to impl.Item, id int) treeAnswer {
			return treeAnswer{ok: impl.TreeOk(t)}
		}},
		{"TreeAll", func(t impl.Tree, key impl.Item, to impl.Item, id int) treeAnswer {
			return treeAnswer{entries: impl.TreeAll(t)}
		}},
		{"TreeHeight", func(t impl.Tree, key impl.Item, to impl.Item, id int) treeAnswer {
			return treeAnswer{ids: []int{impl.TreeHeight(t)}}
		}},
		{"TreeFind", func(t impl.Tree, key impl.Item, to impl.Item, id int) treeAnswer {
			return treeAnswer{ids: impl.TreeFind(t, key)}
		}},
		{"TreeSpan", func(t impl.Tree, key impl.Item, to impl.Item, id int) treeAnswer {
			return treeAnswer{entries: impl.TreeSpan(t, key, to)}
		}},
		{"TreeAdd", func(t impl.Tree, key impl.Item, to impl.Item, id int) treeAnswer {
			after, ok := impl.TreeAdd(t, key, id)
			return treeAnswer{t: after, ok: ok}
		}},
		{"TreeDrop", func(t impl.Tree, key impl.Item, to impl.Item, id int) treeAnswer {
			after, ok := impl.TreeDrop(t, key, id)
			return treeAnswer{t: after, ok: ok}
		}},
	}
}

// textTree has so many texts, put in one after the other, so that texts stand above too.
func textTree(n int) impl.Tree {
	tree := impl.TreeNew()
	for i := range n {
		tree, _ = plainTreeAdd(tree, textItem(fmt.Sprintf("text %02d", i*7%n)), i)
	}
	return tree
}

// memoryTrees are right trees, of texts above all, and a few of the wrong ones.
func memoryTrees() []namedTree {
	l := []namedTree{
		{"four texts", textTree(4)}, {"five texts", textTree(5)}, {"seventeen texts", textTree(17)}, {"thirty texts", textTree(30)},
		{"five texts that end a leaf", treeOf(0, impl.Node{Leaf: true, Entries: []impl.Entry{{Key: textItem("text")}, {Key: textItem("text 1")}, {Key: textItem("text 2")}, {Key: textItem("text 3")}}})},
		{"one text over leaves", idsOver(textItem("text"))},
	}
	for seed := range uint64(6) {
		l = append(l, namedTree{"some tree", someTree(60, seed+800)})
	}
	for i, r := range rightTrees() {
		if len(r.t.Nodes) < 50 || i%3 == 0 {
			l = append(l, r)
		}
	}
	for i, w := range slices.Concat(wrongCounts(), wrongForms(), wrongEntries()) {
		if i%4 == 0 {
			l = append(l, w)
		}
	}
	return l
}

func TestTreesLeaveTheirArgumentsAndShareNothing(t *testing.T) {
	keys := []impl.Entry{{Key: textItem("text 03"), Id: 3}, {Key: textItem("text 02x"), Id: 9}, {Key: textItem("text"), Id: 7}, {Key: textItem("text"), Id: 8}, entryOf(25, 0), entryOf(26, 0), {}}
	for _, of := range memoryTrees() {
		for _, c := range treeCalls() {
			for _, e := range keys {
				name := c.name + ", " + of.name
				g, from := guardTree(of.t), guardTuple(impl.Tuple{Key: e.Key, Value: textItem("text 2")})
				check := func(name string) {
					g.check(t, name)
					from.check(t, name)
				}
				got := c.do(g.t, from.t.Key, from.t.Value, e.Id)
				want := got.clone()
				check(name)
				if plain := c.do(cloneTree(of.t), e.Key, textItem("text 2"), e.Id); !plain.same(want) {
					t.Errorf("%s: room behind a list shows", name)
				}
				got.wantApart(t, name)
				check(name + ", its answer spoilt")
				again := c.do(g.t, from.t.Key, from.t.Value, e.Id)
				g.spoil()
				from.spoil()
				if !again.same(want) {
					t.Errorf("%s: shares memory with an argument or with another answer", name)
				}
			}
		}
	}
}

// Nodes, entries and keys of one tree may stand on the same memory, and the key that is put in too.
func TestAnswersOfTreesOnOneListAreApart(t *testing.T) {
	key := sharedTree().Nodes[2].Entries[0].Key
	for _, c := range treeCalls() {
		for _, x := range []struct{ n, id int }{{1, 1}, {2, 9}, {3, 3}, {4, 4}, {5, 5}, {5, 6}} {
			tree := sharedTree()
			on := impl.Item{Kind: impl.ItText, T: tree.Nodes[2].Entries[0].Key.T[:x.n]}
			got := c.do(tree, on, key, x.id)
			if plain := c.do(cloneTree(tree), textItem("abcdef"[:x.n]), key, x.id); !plain.same(got) {
				t.Errorf("%s on one list: %v, want %v", c.name, got, plain)
			}
			got.wantApart(t, c.name+" on one list")
			if !sameTree(tree, sharedTree()) {
				t.Fatalf("%s: its answer shares memory with its argument", c.name)
			}
		}
	}
}

// What goes up when a leaf is split stands there and in the new leaf, each on memory of its own.
func TestWhatGoesUpIsApartFromWhatStays(t *testing.T) {
	tree := impl.TreeNew()
	for i, s := range []string{"a", "b", "c", "d", "e"} {
		tree, _ = impl.TreeAdd(tree, textItem(s), i)
	}
	if len(tree.Nodes) != 3 {
		t.Fatalf("no split: %v", tree)
	}
	spoil(tree.Nodes[2].Entries[0].Key.T)
	wantEntries(t, "the new leaf", tree.Nodes[1].Entries, []impl.Entry{{Key: textItem("c"), Id: 2}, {Key: textItem("d"), Id: 3}, {Key: textItem("e"), Id: 4}})
	tree.Nodes[0].Entries = append(tree.Nodes[0].Entries, entryOf(0, 0), entryOf(0, 0))
	wantEntries(t, "the new leaf", tree.Nodes[1].Entries, []impl.Entry{{Key: textItem("c"), Id: 2}, {Key: textItem("d"), Id: 3}, {Key: textItem("e"), Id: 4}})
}

func TestATreeIsLeftByTheCallsBehindIt(t *testing.T) {
	first := textTree(12)
	want := cloneTree(first)
	all := impl.TreeAll(first)
	left, _ := impl.TreeAdd(first, textItem("text 05a"), 1)
	right, _ := impl.TreeAdd(first, textItem("text 05b"), 2)
	less, _ := impl.TreeDrop(first, all[3].Key, all[3].Id)
	wantTree(t, "three calls behind one tree", first, true, want)
	wantIds(t, "left", left, textItem("text 05a"), 1)
	wantIds(t, "left", left, textItem("text 05b"))
	wantIds(t, "right", right, textItem("text 05b"), 2)
	wantIds(t, "right", right, textItem("text 05a"))
	wantEntries(t, "less", impl.TreeAll(less), slices.Delete(slices.Clone(all), 3, 4))
}

// One tree that is changed between two calls: nothing is kept of what it was.
func TestTreesKeepNothing(t *testing.T) {
	tree := twoLevels()
	for range 3 {
		wantIds(t, "as it was", tree, intItem(15), 0)
		tree.Nodes[1].Entries[1].Id = 77
		wantIds(t, "another Id", tree, intItem(15), 77)
		tree.Root = 0
		wantIds(t, "another Root", tree, intItem(15))
		if impl.TreeOk(tree) || impl.TreeHeight(tree) != 0 {
			t.Error("another Root: is TreeOk")
		}
		tree = twoLevels()
		fresh := impl.TreeNew()
		fresh.Nodes[0].Entries = append(fresh.Nodes[0].Entries, entryOf(1, 1))
	}
	wantTree(t, "TreeNew once more", impl.TreeNew(), true, treeOf(0, leafOf()))
}

func TestTreesNeverPanic(t *testing.T) {
	numbers := []int{math.MinInt, math.MinInt + 1, -1 << 32, -1, 0, 1, 4, 5, lastId, lastId + 1, mostNodes, mostNodes + 1, 1 << 32, math.MaxInt - 1, math.MaxInt}
	trees := slices.Concat(rightTrees(), wrongTrees())
	for _, root := range numbers {
		trees = append(trees, namedTree{"a Root", changedTree(threeLevels(), func(t *impl.Tree) { t.Root = root })})
		for at := range 3 {
			trees = append(trees, namedTree{"a kid", changedTree(threeLevels(), func(t *impl.Tree) { t.Nodes[6].Kids[at] = root })})
		}
	}
	keys := []impl.Item{intItem(5), {}, {Kind: 9}, {Kind: impl.ItText, T: make([]byte, 1000)}, floatItem(math.NaN()), floatItem(minusNought()), textItem("")}
	for _, of := range trees {
		for i, id := range numbers {
			for _, c := range treeCalls() {
				key, to := keys[i%len(keys)], keys[(i+3)%len(keys)]
				quiet(t, c.name+", "+of.name, func() { c.do(of.t, key, to, id) })
			}
		}
	}
}
