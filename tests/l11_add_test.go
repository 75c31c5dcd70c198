package tests

import (
	"fmt"
	"math"
	"slices"
	"testing"

	"loop.example/g00252/impl"
)

// withEntries is a tree whose node at has other entries.
func withEntries(t impl.Tree, at int, numbers ...int) impl.Tree {
	return changedTree(t, func(t *impl.Tree) { t.Nodes[at].Entries = entriesOf(numbers...) })
}

// wantAdded adds a whole number with the Id 0 and looks at all nodes.
func wantAdded(t *testing.T, name string, tree impl.Tree, n int, want impl.Tree) {
	t.Helper()
	got, ok := impl.TreeAdd(tree, intItem(n), 0)
	wantTree(t, name, got, ok, want)
	if !impl.TreeOk(got) {
		t.Errorf("%s: is not TreeOk: %v", name, got)
	}
}

func TestTreeAddIntoALeaf(t *testing.T) {
	two, three := twoLevels(), threeLevels()
	wantAdded(t, "the first of all", impl.TreeNew(), 5, treeOf(0, leafOf(5)))
	wantAdded(t, "first", treeOf(0, leafOf(10, 20)), 5, treeOf(0, leafOf(5, 10, 20)))
	wantAdded(t, "between", treeOf(0, leafOf(10, 20)), 15, treeOf(0, leafOf(10, 15, 20)))
	wantAdded(t, "last", treeOf(0, leafOf(10, 20)), 25, treeOf(0, leafOf(10, 20, 25)))
	wantAdded(t, "the fourth, first", treeOf(0, leafOf(10, 20, 30)), 5, treeOf(0, leafOf(5, 10, 20, 30)))
	wantAdded(t, "the fourth, between", treeOf(0, leafOf(10, 20, 30)), 25, treeOf(0, leafOf(10, 20, 25, 30)))
	wantAdded(t, "the fourth, last", treeOf(0, leafOf(10, 20, 30)), 35, treeOf(0, leafOf(10, 20, 30, 35)))
	wantAdded(t, "first kid, first", two, 0, withEntries(two, 0, 0, 1, 5))
	wantAdded(t, "first kid, between", two, 3, withEntries(two, 0, 1, 3, 5))
	wantAdded(t, "first kid, last", two, 9, withEntries(two, 0, 1, 5, 9))
	wantAdded(t, "middle kid, between", two, 11, withEntries(two, 1, 10, 11, 15))
	wantAdded(t, "middle kid, last", two, 19, withEntries(two, 1, 10, 15, 19))
	wantAdded(t, "last kid, between", two, 21, withEntries(two, 2, 20, 21, 25))
	wantAdded(t, "last kid, last", two, 26, withEntries(two, 2, 20, 25, 26))
	wantAdded(t, "two steps down, first of all", three, 0, withEntries(three, 0, 0, 1, 5))
	wantAdded(t, "two steps down, ahead of Root's entry", three, 29, withEntries(three, 2, 22, 25, 29))
	wantAdded(t, "two steps down, behind Root's entry", three, 32, withEntries(three, 3, 31, 32, 35))
	wantAdded(t, "two steps down, last of all", three, 60, withEntries(three, 5, 50, 55, 60))
}

// What stands above and in no leaf is not there: it goes to the kid behind it.
func TestTreeAddOfAnEntryThatStandsAbove(t *testing.T) {
	three := threeLevels()
	wantAdded(t, "above a leaf", three, 20, withEntries(three, 2, 20, 22, 25))
	wantAdded(t, "in Root", three, 30, withEntries(three, 3, 30, 31, 35))
	for _, n := range []int{10, 40, 50} {
		got, ok := impl.TreeAdd(three, intItem(n), 0)
		wantNoTree(t, fmt.Sprint("above and in a leaf: ", n), got, ok)
	}
	twice := treeOf(6, leafOf(1), leafOf(25), leafOf(), leafOf(31), nodeOf([]int{0, 1}, 20), nodeOf([]int{2, 3}, 30), nodeOf([]int{4, 5}, 30))
	wantAdded(t, "twice above", twice, 30, withEntries(twice, 3, 30, 31))
	wantAdded(t, "ahead of what is twice above", twice, 29, withEntries(twice, 1, 25, 29))
}

func TestTreeAddIntoLeavesWithoutEntries(t *testing.T) {
	for _, x := range [][2]int{{0, 7}, {1, 10}, {1, 13}, {2, 20}, {2, 29}, {3, 30}, {3, 39}, {4, 44}, {5, 50}, {5, 99}} {
		empty := emptyLeaves(x[0])
		wantAdded(t, fmt.Sprint("one leaf without entries: ", x), empty, x[1], withEntries(empty, x[0], x[1]))
		all := emptyLeaves(0, 1, 2, 3, 4, 5)
		wantAdded(t, fmt.Sprint("all without entries: ", x), all, x[1], withEntries(all, x[0], x[1]))
	}
}

func TestTreeAddByIds(t *testing.T) {
	leaf := func(l ...impl.Entry) impl.Tree { return treeOf(0, impl.Node{Leaf: true, Entries: l}) }
	of := leaf(entryOf(4, 100), entryOf(5, 10), entryOf(5, 20))
	for _, x := range []struct {
		name string
		e    impl.Entry
		want impl.Tree
	}{
		{"an Id less than those of its key", entryOf(5, 3), leaf(entryOf(4, 100), entryOf(5, 3), entryOf(5, 10), entryOf(5, 20))},
		{"an Id between", entryOf(5, 11), leaf(entryOf(4, 100), entryOf(5, 10), entryOf(5, 11), entryOf(5, 20))},
		{"an Id above", entryOf(5, 21), leaf(entryOf(4, 100), entryOf(5, 10), entryOf(5, 20), entryOf(5, 21))},
		{"the least Id", entryOf(5, 0), leaf(entryOf(4, 100), entryOf(5, 0), entryOf(5, 10), entryOf(5, 20))},
		{"the greatest Id", entryOf(5, lastId), leaf(entryOf(4, 100), entryOf(5, 10), entryOf(5, 20), entryOf(5, lastId))},
		{"the greatest Id of the key ahead", entryOf(4, lastId), leaf(entryOf(4, 100), entryOf(4, lastId), entryOf(5, 10), entryOf(5, 20))},
		{"another key with an Id that is there", entryOf(6, 10), leaf(entryOf(4, 100), entryOf(5, 10), entryOf(5, 20), entryOf(6, 10))},
	} {
		got, ok := impl.TreeAdd(of, x.e.Key, x.e.Id)
		wantTree(t, x.name, got, ok, x.want)
	}
	over := idsOver(intItem(5))
	for _, x := range [][3]int{{4, 0, 3}, {5, 1, 0}, {6, 1, 0}, {9, 1, 2}, {199, 1, 2}, {201, 2, 1}, {254, 2, 1}} {
		got, ok := impl.TreeAdd(over, intItem(5), x[0])
		want := changedTree(over, func(t *impl.Tree) {
			t.Nodes[x[1]].Entries = slices.Insert(t.Nodes[x[1]].Entries, x[2], entryOf(5, x[0]))
		})
		wantTree(t, fmt.Sprint("one key over leaves, the Id ", x[0]), got, ok, want)
	}
}

// leafSplit is what becomes of a leaf of 10, 20, 30, 40 to which one comes: what it keeps, what the new leaf has, and what goes up.
type leafSplit struct {
	n             int
	first, behind []int
	up            int
}

// leafSplits are all five places.
func leafSplits() []leafSplit {
	return []leafSplit{
		{5, []int{5, 10}, []int{20, 30, 40}, 20},
		{15, []int{10, 15}, []int{20, 30, 40}, 20},
		{25, []int{10, 20}, []int{25, 30, 40}, 25},
		{35, []int{10, 20}, []int{30, 35, 40}, 30},
		{45, []int{10, 20}, []int{30, 40, 45}, 30},
	}
}

// moved are these numbers, each so much greater.
func moved(numbers []int, by int) []int {
	l := slices.Clone(numbers)
	for i := range l {
		l[i] += by
	}
	return l
}

func fullLeaf(by int) impl.Node {
	return leafOf(moved([]int{10, 20, 30, 40}, by)...)
}

func TestTreeAddSplitsRootAsALeaf(t *testing.T) {
	for _, x := range leafSplits() {
		want := treeOf(2, leafOf(x.first...), leafOf(x.behind...), nodeOf([]int{0, 1}, x.up))
		wantAdded(t, fmt.Sprint("Root by ", x.n), treeOf(0, fullLeaf(0)), x.n, want)
	}
}

func TestTreeAddSplitsALeafBelow(t *testing.T) {
	tree := treeOf(3, fullLeaf(0), fullLeaf(100), fullLeaf(200), nodeOf([]int{0, 1, 2}, 100, 200))
	for _, x := range leafSplits() {
		for kid, above := range []impl.Node{
			nodeOf([]int{0, 4, 1, 2}, x.up, 100, 200),
			nodeOf([]int{0, 1, 4, 2}, 100, 100+x.up, 200),
			nodeOf([]int{0, 1, 2, 4}, 100, 200, 200+x.up),
		} {
			by := 100 * kid
			want := changedTree(tree, func(t *impl.Tree) {
				t.Nodes[kid] = leafOf(moved(x.first, by)...)
				t.Nodes[3] = above
				t.Nodes = append(t.Nodes, leafOf(moved(x.behind, by)...))
			})
			wantAdded(t, fmt.Sprintf("the kid %d by %d", kid, x.n), tree, x.n+by, want)
		}
	}
}

// A leaf that is not where its number would have it: places of kids and numbers of nodes are apart.
func TestTreeAddSplitsALeafAtAnyNumber(t *testing.T) {
	tree := treeOf(1, fullLeaf(200), nodeOf([]int{3, 2, 0}, 100, 200), fullLeaf(100), fullLeaf(0))
	wantAdded(t, "the first kid", tree, 25, treeOf(1, fullLeaf(200), nodeOf([]int{3, 4, 2, 0}, 25, 100, 200), fullLeaf(100), leafOf(10, 20), leafOf(25, 30, 40)))
	wantAdded(t, "the middle kid", tree, 125, treeOf(1, fullLeaf(200), nodeOf([]int{3, 2, 4, 0}, 100, 125, 200), leafOf(110, 120), fullLeaf(0), leafOf(125, 130, 140)))
	wantAdded(t, "the last kid", tree, 225, treeOf(1, leafOf(210, 220), nodeOf([]int{3, 2, 0, 4}, 100, 200, 225), fullLeaf(100), fullLeaf(0), leafOf(225, 230, 240)))
}

// The first of the new leaf goes up with its Id.
func TestTreeAddSplitsALeafOfOneKey(t *testing.T) {
	e := func(ids ...int) []impl.Entry {
		var l []impl.Entry
		for _, id := range ids {
			l = append(l, impl.Entry{Key: textItem("a"), Id: id})
		}
		return l
	}
	got, ok := impl.TreeAdd(treeOf(0, impl.Node{Leaf: true, Entries: e(1, 3, 7, lastId)}), textItem("a"), 5)
	want := treeOf(2, impl.Node{Leaf: true, Entries: e(1, 3)}, impl.Node{Leaf: true, Entries: e(5, 7, lastId)}, impl.Node{Entries: e(5), Kids: []int{0, 1}})
	wantTree(t, "one key", got, ok, want)
}

// nodeSplit is what becomes of a node with the entries 100, 200, 300, 400 and the kids 0 to 4 when one of
// its leaves is split by 25 (and the kid's hundreds) into itself and a new leaf.
type nodeSplit struct {
	first  impl.Node
	up     int
	behind impl.Node
}

// nodeSplits are those of all five kids.
func nodeSplits(fresh int) []nodeSplit {
	return []nodeSplit{
		{nodeOf([]int{0, fresh, 1}, 25, 100), 200, nodeOf([]int{2, 3, 4}, 300, 400)},
		{nodeOf([]int{0, 1, fresh}, 100, 125), 200, nodeOf([]int{2, 3, 4}, 300, 400)},
		{nodeOf([]int{0, 1, 2}, 100, 200), 225, nodeOf([]int{fresh, 3, 4}, 300, 400)},
		{nodeOf([]int{0, 1, 2}, 100, 200), 300, nodeOf([]int{3, fresh, 4}, 325, 400)},
		{nodeOf([]int{0, 1, 2}, 100, 200), 300, nodeOf([]int{3, 4, fresh}, 400, 425)},
	}
}

func fiveLeaves(by int) []impl.Node {
	var l []impl.Node
	for i := range 5 {
		l = append(l, fullLeaf(by+100*i))
	}
	return l
}

func TestTreeAddSplitsRootAboveLeaves(t *testing.T) {
	tree := treeOf(5, append(fiveLeaves(0), nodeOf(upTo(0, 4), 100, 200, 300, 400))...)
	for kid, x := range nodeSplits(6) {
		nodes := fiveLeaves(0)
		nodes[kid] = leafOf(moved([]int{10, 20}, 100*kid)...)
		nodes = append(nodes, x.first, leafOf(moved([]int{25, 30, 40}, 100*kid)...), x.behind, nodeOf([]int{5, 7}, x.up))
		wantAdded(t, fmt.Sprint("the kid ", kid), tree, 25+100*kid, treeOf(8, nodes...))
	}
}

// movedNode has entries and kids each so much greater, but for the kid that is new.
func movedNode(n impl.Node, by int, kidsBy int, fresh int) impl.Node {
	var after impl.Node
	for _, e := range n.Entries {
		after.Entries = append(after.Entries, entryOf(e.Key.N+by, 0))
	}
	for _, kid := range n.Kids {
		if kid != fresh {
			kid += kidsBy
		}
		after.Kids = append(after.Kids, kid)
	}
	return after
}

// Three nodes with five leaves each below Root, which has room for what goes up.
func TestTreeAddSplitsANodeBelow(t *testing.T) {
	var nodes []impl.Node
	for m := range 3 {
		nodes = append(nodes, fiveLeaves(1000*m)...)
	}
	full := nodeOf(upTo(0, 4), 100, 200, 300, 400)
	for m := range 3 {
		nodes = append(nodes, movedNode(full, 1000*m, 5*m, -1))
	}
	tree := treeOf(18, append(nodes, nodeOf([]int{15, 16, 17}, 1000, 2000))...)
	for m := range 3 {
		for kid, x := range nodeSplits(19) {
			by := 1000*m + 100*kid
			up := 1000*m + x.up
			want := changedTree(tree, func(t *impl.Tree) {
				t.Nodes[5*m+kid] = leafOf(moved([]int{10, 20}, by)...)
				t.Nodes[15+m] = movedNode(x.first, 1000*m, 5*m, 19)
				t.Nodes[18] = []impl.Node{nodeOf([]int{15, 20, 16, 17}, up, 1000, 2000), nodeOf([]int{15, 16, 20, 17}, 1000, up, 2000), nodeOf([]int{15, 16, 17, 20}, 1000, 2000, up)}[m]
				t.Nodes = append(t.Nodes, leafOf(moved([]int{25, 30, 40}, by)...), movedNode(x.behind, 1000*m, 5*m, 19))
			})
			wantAdded(t, fmt.Sprintf("the node %d by its kid %d", m, kid), tree, by+25, want)
		}
	}
}

// A leaf, the node above it and Root: all are split, and stand behind each other in this order.
func TestTreeAddSplitsAllTheWayUp(t *testing.T) {
	tree := levelled(4, 1, 5, 25)
	want := changedTree(tree, func(t *impl.Tree) {
		t.Root = 34
		t.Nodes[18] = leafOf(120, 121)
		t.Nodes[3] = nodeOf([]int{16, 17, 18}, 110, 120)
		t.Nodes[0] = nodeOf([]int{1, 2, 3}, 50, 100)
		t.Nodes = append(t.Nodes, leafOf(122, 123, 125), nodeOf([]int{31, 19, 20}, 130, 140), nodeOf([]int{32, 4, 5}, 150, 200), nodeOf([]int{0, 33}, 122))
	})
	wantAdded(t, "all the way up", tree, 125, want)
	if got, _ := impl.TreeAdd(tree, intItem(125), 0); impl.TreeHeight(got) != 4 {
		t.Errorf("TreeHeight behind it: %d", impl.TreeHeight(got))
	}
}

// Trees nearly as great as can be: what a split makes of them is met exactly, and passed by one.
func TestTreeAddOnBothSidesOfMaxNodes(t *testing.T) {
	type grown struct{ before, after int }
	count := map[grown]int{}
	for nodes := mostNodes - 3; nodes <= mostNodes; nodes++ {
		for _, n := range []int{3, 4} {
			tree := crowdedTree(n, nodes)
			for leaf := 0; leaf < nodes-crowdedAbove; leaf += 4 + leaf%5 {
				got, ok := impl.TreeAdd(tree, intItem(10*leaf+5), 0)
				want, well := plainTreeAdd(tree, intItem(10*leaf+5), 0)
				wantTreeOrNone(t, fmt.Sprintf("%d nodes, the leaf %d", nodes, leaf), got, ok, want, well)
				count[grown{nodes, len(want.Nodes)}]++
			}
		}
	}
	for _, g := range []grown{{mostNodes, mostNodes}, {mostNodes, 0}, {mostNodes - 1, mostNodes}, {mostNodes - 1, 0}, {mostNodes - 2, mostNodes}, {mostNodes - 2, mostNodes - 1}, {mostNodes - 3, mostNodes - 1}} {
		if count[g] == 0 {
			t.Errorf("none went from %d nodes to %d: %v", g.before, g.after, count)
		}
	}
}

// A full tree of 299 nodes is split by one, of 300 by none; all that goes into a leaf with room is still taken.
func TestTreeAddOfTheLastNode(t *testing.T) {
	for seed := range uint64(5) {
		less := renumbered(crowdedTree(4, mostNodes-1), seed)
		got, ok := impl.TreeAdd(less, intItem(-1), 0)
		if !ok || len(got.Nodes) != mostNodes || !impl.TreeOk(got) {
			t.Errorf("MaxNodes by a split: %d nodes, %t", len(got.Nodes), ok)
		}
		got, ok = impl.TreeAdd(renumbered(crowdedTree(4, mostNodes), seed), intItem(-1), 0)
		wantNoTree(t, "one more than MaxNodes by a split", got, ok)
		got, ok = impl.TreeAdd(renumbered(crowdedTree(3, mostNodes), seed), intItem(-1), 0)
		if !ok || len(got.Nodes) != mostNodes || !impl.TreeOk(got) {
			t.Errorf("MaxNodes without a split: %d nodes, %t", len(got.Nodes), ok)
		}
	}
}

// Each refusal for one reason alone: beside it the same call is taken.
func TestTreeAddOnBothSidesOfEachReason(t *testing.T) {
	two := twoLevels()
	for _, x := range []struct {
		name string
		t    impl.Tree
		key  impl.Item
		id   int
		well bool
	}{
		{"as it is", two, intItem(7), 3, true},
		{"not TreeOk", changedTree(two, func(t *impl.Tree) { t.Root = -1 }), intItem(7), 3, false},
		{"not TreeOk, in another leaf", withEntries(two, 2, 25, 20), intItem(7), 3, false},
		{"the zero value of a tree", impl.Tree{}, intItem(7), 3, false},
		{"no key", two, impl.Item{}, 3, false},
		{"-0", two, floatItem(minusNought()), 3, false},
		{"+0", two, floatItem(0), 3, true},
		{"a text of MaxText", two, longText("k"), 3, true},
		{"a text that is one too long", two, impl.Item{Kind: impl.ItText, T: make([]byte, 41)}, 3, false},
		{"an Id of -1", two, intItem(7), -1, false},
		{"an Id of 0", two, intItem(7), 0, true},
		{"an Id of MaxId", two, intItem(7), lastId, true},
		{"an Id of MaxId + 1", two, intItem(7), lastId + 1, false},
		{"it is there, the first of all", two, intItem(1), 0, false},
		{"it is there, between", two, intItem(15), 0, false},
		{"it is there, and above", two, intItem(20), 0, false},
		{"it is there, the last of all", two, intItem(25), 0, false},
		{"its key is there with another Id", two, intItem(20), 1, true},
		{"its key is there with another kind", two, floatItem(20), 0, true},
		{"it is there in a full leaf", treeOf(0, fullLeaf(0)), intItem(30), 0, false},
		{"it is there in a tree of MaxNodes", crowdedTree(3, mostNodes), intItem(1000), 0, false},
	} {
		got, ok := impl.TreeAdd(x.t, x.key, x.id)
		want, well := plainTreeAdd(x.t, x.key, x.id)
		if well != x.well {
			t.Fatalf("%s: the plain reading says %t", x.name, well)
		}
		wantTreeOrNone(t, x.name, got, ok, want, well)
	}
}

// All NaNs are one key: what is there with some bits is there with others.
func TestTreeAddOfNaNs(t *testing.T) {
	tree, _ := impl.TreeAdd(impl.TreeNew(), floatItem(plainNaN()), 9)
	for _, bits := range strangeNaNs() {
		key := floatItem(math.Float64frombits(bits))
		got, ok := impl.TreeAdd(tree, key, 9)
		wantNoTree(t, "a NaN that is there", got, ok)
		got, ok = impl.TreeAdd(tree, key, 8)
		wantTree(t, "a NaN with another Id", got, ok, treeOf(0, impl.Node{Leaf: true, Entries: []impl.Entry{{Key: key, Id: 8}, {Key: key, Id: 9}}}))
	}
}

func TestTreeAddOfWhatIsNoEntry(t *testing.T) {
	for _, e := range entriesThatAreNone() {
		for _, tree := range []impl.Tree{impl.TreeNew(), treeOf(0, fullLeaf(0)), threeLevels()} {
			got, ok := impl.TreeAdd(tree, e.Key, e.Id)
			wantNoTree(t, fmt.Sprint("no entry ", e), got, ok)
		}
	}
}

func TestTreeAddToTreesThatAreNotOk(t *testing.T) {
	for _, w := range slices.Concat(wrongTrees(), treesOfNoEntry()) {
		for _, n := range []int{-9, 5, 7, 10, 33, 2000} {
			got, ok := impl.TreeAdd(w.t, intItem(n), 1)
			wantNoTree(t, w.name, got, ok)
		}
	}
}

func TestTreeAddToRightTrees(t *testing.T) {
	count := map[bool]int{}
	entries := append(fewEntries(2), entriesOf(-1, 0, 3, 5, 10, 12, 19, 20, 21, 25, 29, 30, 31, 44, 55, 99, 1234)...)
	for _, r := range rightTrees() {
		for _, e := range entries {
			got, ok := impl.TreeAdd(r.t, e.Key, e.Id)
			want, well := plainTreeAdd(r.t, e.Key, e.Id)
			wantTreeOrNone(t, fmt.Sprint(r.name, ", ", e), got, ok, want, well)
			count[well]++
		}
	}
	if count[true] < 500 || count[false] < 50 {
		t.Errorf("TreeAdd: %v", count)
	}
}
