package tests

import (
	"fmt"
	"slices"
	"testing"

	"loop.example/g00252/impl"
)

func TestTreeNewIsOneLeafWithoutEntries(t *testing.T) {
	got := impl.TreeNew()
	wantTree(t, "TreeNew", got, true, treeOf(0, leafOf()))
	if !impl.TreeOk(got) || impl.TreeHeight(got) != 1 || len(impl.TreeAll(got)) != 0 {
		t.Errorf("TreeNew: is it TreeOk: %t, its height %d, its entries %v", impl.TreeOk(got), impl.TreeHeight(got), impl.TreeAll(got))
	}
}

func TestTheTreesLimits(t *testing.T) {
	if impl.MaxFan != mostFan || impl.MaxNodes != mostNodes || impl.MaxId != lastId {
		t.Error(impl.MaxFan, impl.MaxNodes, impl.MaxId)
	}
}

func TestTreeOkOfRightTrees(t *testing.T) {
	for _, r := range rightTrees() {
		if !impl.TreeOk(r.t) || !plainTreeOk(r.t) {
			t.Errorf("%s: is not TreeOk", r.name)
		}
	}
}

func TestTreeOkOfWrongTrees(t *testing.T) {
	for _, w := range slices.Concat(wrongTrees(), treesOfNoEntry()) {
		if impl.TreeOk(w.t) || plainTreeOk(w.t) {
			t.Errorf("%s: is TreeOk", w.name)
		}
	}
}

func TestTreeOkOnBothSidesOfMaxNodes(t *testing.T) {
	for n := range 5 {
		for nodes := mostNodes - 4; nodes <= mostNodes+4; nodes++ {
			for _, tree := range []impl.Tree{crowdedTree(n, nodes), renumbered(crowdedTree(n, nodes), uint64(nodes))} {
				if got := impl.TreeOk(tree); got != (nodes <= mostNodes) || len(tree.Nodes) != nodes {
					t.Errorf("TreeOk of %d nodes is %t", nodes, got)
				}
			}
		}
	}
}

// A leaf and a node above with from no entries up to more than MaxFan, all else being right.
func TestTreeOkByHowManyEntriesThereAre(t *testing.T) {
	for n := range 9 {
		if got := impl.TreeOk(treeOf(0, leafOf(upTo(1, n)...))); got != (n <= mostFan) {
			t.Errorf("TreeOk of a leaf with %d entries is %t", n, got)
		}
		if got := impl.TreeOk(levelled(n, 1, 3)); got != (n <= mostFan) {
			t.Errorf("TreeOk of leaves with %d entries is %t", n, got)
		}
		if got := impl.TreeOk(leavesBelow(entriesOf(upTo(1, n)...)...)); got != (n >= 1 && n <= mostFan) {
			t.Errorf("TreeOk with %d entries above is %t", n, got)
		}
	}
}

// Entries and kids above, each as many as the other lets be, and others.
func TestTreeOkByHowManyKidsThereAre(t *testing.T) {
	for n := range 7 {
		for kids := range 9 {
			tree := treeOf(0, nodeOf(upTo(1, kids), upTo(1, n)...))
			tree.Nodes = append(tree.Nodes, slices.Repeat([]impl.Node{leafOf()}, kids)...)
			if got := impl.TreeOk(tree); got != (n >= 1 && n <= mostFan && kids == n+1) {
				t.Errorf("TreeOk with %d entries and %d kids is %t", n, kids, got)
			}
		}
	}
}

func TestTreeOkByIds(t *testing.T) {
	for _, id := range append(past([2]int{0, lastId}), 0, 1, 127, 128, lastId-1, lastId) {
		want := id >= 0 && id <= lastId
		for _, tree := range []impl.Tree{
			treeOf(0, impl.Node{Leaf: true, Entries: []impl.Entry{entryOf(5, id)}}),
			treeOf(0, impl.Node{Leaf: true, Entries: []impl.Entry{entryOf(4, 9), entryOf(5, id), entryOf(6, 9)}}),
			leavesBelow(entryOf(5, id)),
			leavesBelow(entryOf(4, 9), entryOf(5, id), entryOf(6, 9)),
			changedTree(threeLevels(), func(t *impl.Tree) { t.Nodes[2].Entries[1].Id = id }),
			changedTree(threeLevels(), func(t *impl.Tree) { t.Nodes[6].Entries[1].Id = id }),
			changedTree(threeLevels(), func(t *impl.Tree) { t.Nodes[8].Entries[0].Id = id }),
		} {
			if got := impl.TreeOk(tree); got != want {
				t.Errorf("TreeOk with the Id %d is %t: %v", id, got, tree)
			}
		}
	}
}

// A leaf's entry on each side of those above it, by its key and by its Id.
func TestTreeOkOnBothSidesOfAnEntryAbove(t *testing.T) {
	for n := range 41 {
		for _, id := range []int{0, 6, 7, 8} {
			e := impl.Entry{Key: intItem(n), Id: id}
			for kid := range 3 {
				tree := leavesBelow(entryOf(10, 7), entryOf(30, 7))
				tree.Nodes[kid+1].Entries = []impl.Entry{e}
				ahead := 0
				for _, above := range tree.Nodes[0].Entries {
					if n > above.Key.N || n == above.Key.N && id >= 7 {
						ahead++
					}
				}
				if got := impl.TreeOk(tree); got != (ahead == kid) {
					t.Errorf("TreeOk with %v below the kid %d is %t", e, kid, got)
				}
			}
		}
	}
}

// All keys in a row, one in each leaf, parted by themselves.
func TestTreeOkOfKeysInTheirOrder(t *testing.T) {
	keys := risingKeys()
	for i := 0; i+2 < len(keys); i++ {
		a, b, c := impl.Entry{Key: keys[i]}, impl.Entry{Key: keys[i+1]}, impl.Entry{Key: keys[i+2]}
		leaf := func(e ...impl.Entry) impl.Node { return impl.Node{Leaf: true, Entries: e} }
		above := impl.Node{Entries: []impl.Entry{b, c}, Kids: []int{0, 1, 2}}
		if !impl.TreeOk(treeOf(3, leaf(a), leaf(b), leaf(c), above)) || !impl.TreeOk(treeOf(0, leaf(a, b, c))) {
			t.Errorf("%v, %v and %v are not in order", a, b, c)
		}
		if impl.TreeOk(treeOf(3, leaf(b), leaf(b), leaf(c), above)) || impl.TreeOk(treeOf(3, leaf(a), leaf(a), leaf(c), above)) || impl.TreeOk(treeOf(3, leaf(a), leaf(c), leaf(c), above)) {
			t.Errorf("an entry may stand on the wrong side of %v or %v", b, c)
		}
		if impl.TreeOk(treeOf(0, leaf(b, a))) || impl.TreeOk(treeOf(0, leaf(a, c, b))) || impl.TreeOk(treeOf(0, leaf(a, a))) {
			t.Errorf("%v, %v and %v may fall", a, b, c)
		}
	}
}

// The same entries in all leaves but for where the nodes stand: which numbers they have makes no difference.
func TestTreeOkWhereverNodesStand(t *testing.T) {
	for seed := range uint64(20) {
		for _, tree := range []impl.Tree{twoLevels(), threeLevels(), levelled(3, 1, 4, 15), crowdedTree(1, mostNodes)} {
			other := renumbered(tree, seed)
			if !impl.TreeOk(other) {
				t.Errorf("is not TreeOk: %v", other)
			}
			wantEntries(t, "at other places", impl.TreeAll(other), plainTreeAll(tree))
		}
	}
}

// twisted has one thing of a tree changed, as the numbers say.
func twisted(tree impl.Tree, x uint64) impl.Tree {
	c := cloneTree(tree)
	pick := func(n int) int {
		x = x*6364136223846793005 + 1442695040888963407
		return int(x >> 33 % uint64(max(n, 1)))
	}
	at := pick(len(c.Nodes))
	n := &c.Nodes[at]
	few := fewEntries(3)
	switch i, k := pick(len(n.Entries)), pick(len(n.Kids)); pick(9) {
	case 0:
		c.Root = pick(len(c.Nodes)+2) - 1
	case 1:
		n.Leaf = !n.Leaf
	case 2:
		n.Entries = slices.Insert(n.Entries, i, few[pick(len(few))])
	case 3:
		c.Nodes = append(c.Nodes, impl.Node{Leaf: true})
	case 4:
		n.Kids = append(n.Kids, pick(len(c.Nodes)+2)-1)
	default:
		if len(n.Entries) > 0 && pick(3) > 0 {
			n.Entries[i].Key = few[pick(len(few))].Key
		}
		if len(n.Entries) > 0 && pick(3) == 0 {
			n.Entries[i].Id += pick(60) - 30
		}
		if len(n.Kids) > 0 && pick(6) == 0 {
			n.Kids[k] = pick(len(c.Nodes)+2) - 1
		}
		if len(n.Entries) > 0 && n.Leaf && pick(4) == 0 {
			n.Entries = slices.Delete(n.Entries, i, i+1)
		}
	}
	return c
}

func TestTreeOkOfOneThingChangedIsAsTheDocumentSays(t *testing.T) {
	count := map[bool]int{}
	for seed := range uint64(60) {
		tree := someTree(int(seed)*2, seed+100)
		for i, x := range someBits(60, seed) {
			c := twisted(tree, x)
			want := plainTreeOk(c)
			count[want]++
			if got := impl.TreeOk(c); got != want {
				t.Fatalf("TreeOk of %v is %t (%d, %d)", c, got, seed, i)
			}
			wantEntries(t, fmt.Sprint("changed ", seed, i), impl.TreeAll(c), plainTreeAll(c))
			if got := impl.TreeHeight(c); got != plainHeight(c) {
				t.Errorf("TreeHeight of %v is %d", c, got)
			}
		}
	}
	if count[true] < 300 || count[false] < 1000 {
		t.Errorf("TreeOk: %v", count)
	}
}
