package tests

import (
	"fmt"
	"math"
	"slices"
	"testing"

	"loop.example/g00252/impl"
)

// wantDropped takes out a whole number with the Id 0 and looks at all nodes.
func wantDropped(t *testing.T, name string, tree impl.Tree, n int, want impl.Tree) {
	t.Helper()
	got, ok := impl.TreeDrop(tree, intItem(n), 0)
	wantTree(t, name, got, ok, want)
	if !impl.TreeOk(got) {
		t.Errorf("%s: is not TreeOk: %v", name, got)
	}
}

func TestTreeDropPlainly(t *testing.T) {
	two := withEntries(twoLevels(), 1, 10, 12, 15)
	three := threeLevels()
	wantDropped(t, "the only entry of all", treeOf(0, leafOf(5)), 5, treeOf(0, leafOf()))
	wantDropped(t, "first", treeOf(0, leafOf(5, 6, 7)), 5, treeOf(0, leafOf(6, 7)))
	wantDropped(t, "between", treeOf(0, leafOf(5, 6, 7)), 6, treeOf(0, leafOf(5, 7)))
	wantDropped(t, "last", treeOf(0, leafOf(5, 6, 7)), 7, treeOf(0, leafOf(5, 6)))
	wantDropped(t, "of a full leaf", treeOf(0, fullLeaf(0)), 30, treeOf(0, leafOf(10, 20, 40)))
	wantDropped(t, "of the first kid", two, 1, withEntries(two, 0, 5))
	wantDropped(t, "first of the middle kid, which stands above too", two, 10, withEntries(two, 1, 12, 15))
	wantDropped(t, "between of the middle kid", two, 12, withEntries(two, 1, 10, 15))
	wantDropped(t, "last of the middle kid", two, 15, withEntries(two, 1, 10, 12))
	wantDropped(t, "first of the last kid, which stands above too", two, 20, withEntries(two, 2, 25))
	wantDropped(t, "the last of all", two, 25, withEntries(two, 2, 20))
	wantDropped(t, "two steps down, first of all", three, 1, withEntries(three, 0, 5))
	wantDropped(t, "two steps down, ahead of Root's entry", three, 25, withEntries(three, 2, 22))
	wantDropped(t, "two steps down, behind Root's entry", three, 31, withEntries(three, 3, 35))
	wantDropped(t, "two steps down, which stands above too", three, 50, withEntries(three, 5, 55))
}

// A leaf whose only entry goes stays where it is, and takes another one.
func TestTreeDropOfTheOnlyEntryOfALeaf(t *testing.T) {
	tree := treeOf(3, leafOf(5), leafOf(10), leafOf(20), nodeOf([]int{0, 1, 2}, 10, 20))
	for leaf, n := range []int{5, 10, 20} {
		wantDropped(t, fmt.Sprint("the leaf ", leaf), tree, n, withEntries(tree, leaf))
		got, _ := impl.TreeDrop(tree, intItem(n), 0)
		wantAdded(t, fmt.Sprint("the leaf again ", leaf), got, n, tree)
		wantAdded(t, fmt.Sprint("the leaf with another ", leaf), got, n+1, withEntries(tree, leaf, n+1))
	}
}

// All entries go, one after the other; all nodes stay, and all that is above.
func TestTreeDropOfAllEntries(t *testing.T) {
	for _, tree := range []impl.Tree{twoLevels(), threeLevels(), levelled(3, 1, 4, 15), levelled(4, 1, 5, 25), idsOver(textItem("ab"))} {
		left := impl.TreeAll(tree)
		for i, x := range someBits(len(left), 11) {
			at := int(x >> 20 % uint64(len(left)))
			e := left[at]
			want, _ := plainTreeDrop(tree, e.Key, e.Id)
			got, ok := impl.TreeDrop(tree, e.Key, e.Id)
			wantTree(t, fmt.Sprint("the drop ", i), got, ok, want)
			left = slices.Delete(left, at, at+1)
			tree = got
			wantEntries(t, "all that is left", impl.TreeAll(tree), left)
			again, ok := impl.TreeDrop(tree, e.Key, e.Id)
			wantNoTree(t, "a second time", again, ok)
		}
		if len(impl.TreeAll(tree)) != 0 || !impl.TreeOk(tree) {
			t.Errorf("behind the last one: %v", tree)
		}
	}
}

func TestTreeDropByIds(t *testing.T) {
	over := idsOver(intItem(5))
	for id := -2; id <= lastId+2; id++ {
		got, ok := impl.TreeDrop(over, intItem(5), id)
		want, well := plainTreeDrop(over, intItem(5), id)
		if there := slices.Contains([]int{0, 1, 7, 8, 200, 255}, id); there != well {
			t.Fatalf("the Id %d: the plain reading says %t", id, well)
		}
		wantTreeOrNone(t, fmt.Sprint("the Id ", id), got, ok, want, well)
	}
}

// Each refusal for one reason alone: beside it the same call is taken.
func TestTreeDropOnBothSidesOfEachReason(t *testing.T) {
	two, three := twoLevels(), threeLevels()
	noughts := treeOf(0, impl.Node{Leaf: true, Entries: []impl.Entry{entryOf(0, 3), {Key: floatItem(0), Id: 3}, {Key: floatItem(plainNaN()), Id: 3}}})
	for _, x := range []struct {
		name string
		t    impl.Tree
		key  impl.Item
		id   int
		well bool
	}{
		{"as it is", two, intItem(15), 0, true},
		{"not TreeOk", changedTree(two, func(t *impl.Tree) { t.Root = 4 }), intItem(15), 0, false},
		{"not TreeOk, in another leaf", withEntries(two, 2, 25, 20), intItem(15), 0, false},
		{"not TreeOk by what is to go", withEntries(two, 1, 10, 15, 20), intItem(20), 0, false},
		{"the zero value of a tree", impl.Tree{}, intItem(15), 0, false},
		{"no entries at all", impl.TreeNew(), intItem(15), 0, false},
		{"another Id", two, intItem(15), 1, false},
		{"another Id, of what stands above", two, intItem(20), 1, false},
		{"another kind", two, floatItem(15), 0, false},
		{"below all", two, intItem(0), 0, false},
		{"above all", two, intItem(26), 0, false},
		{"between two of a leaf", two, intItem(12), 0, false},
		{"between two leaves", two, intItem(16), 0, false},
		{"above and in a leaf", three, intItem(40), 0, true},
		{"above a leaf alone", three, intItem(20), 0, false},
		{"in Root alone", three, intItem(30), 0, false},
		{"above a leaf without entries alone", emptyLeaves(1), intItem(10), 0, false},
		{"-0", noughts, floatItem(minusNought()), 3, false},
		{"+0", noughts, floatItem(0), 3, true},
		{"a NaN", noughts, floatItem(math.NaN()), 3, true},
		{"a NaN of other bits", noughts, floatItem(math.Float64frombits(strangeNaNs()[9])), 3, true},
		{"no key", noughts, impl.Item{}, 3, false},
		{"of MaxNodes", crowdedTree(3, mostNodes), intItem(1001), 0, true},
	} {
		got, ok := impl.TreeDrop(x.t, x.key, x.id)
		want, well := plainTreeDrop(x.t, x.key, x.id)
		if well != x.well {
			t.Fatalf("%s: the plain reading says %t", x.name, well)
		}
		wantTreeOrNone(t, x.name, got, ok, want, well)
	}
}

func TestTreeDropOfWhatIsNoEntry(t *testing.T) {
	for _, e := range entriesThatAreNone() {
		for _, tree := range []impl.Tree{impl.TreeNew(), treeOf(0, leafOf(0, 1, 5)), threeLevels()} {
			got, ok := impl.TreeDrop(tree, e.Key, e.Id)
			wantNoTree(t, fmt.Sprint("no entry ", e), got, ok)
		}
	}
}

func TestTreeDropFromTreesThatAreNotOk(t *testing.T) {
	for _, w := range slices.Concat(wrongTrees(), treesOfNoEntry()) {
		for _, n := range w.t.Nodes[:min(len(w.t.Nodes), 12)] {
			for _, e := range n.Entries[:min(len(n.Entries), 6)] {
				got, ok := impl.TreeDrop(w.t, e.Key, e.Id)
				wantNoTree(t, w.name, got, ok)
			}
		}
		got, ok := impl.TreeDrop(w.t, intItem(5), 0)
		wantNoTree(t, w.name, got, ok)
	}
}

func TestTreeDropFromRightTrees(t *testing.T) {
	count := map[bool]int{}
	entries := append(fewEntries(2), entriesOf(-1, 0, 1, 3, 5, 10, 12, 19, 20, 21, 25, 29, 30, 31, 40, 44, 50, 55, 99, 1230)...)
	for _, r := range rightTrees() {
		all := impl.TreeAll(r.t)
		for _, e := range append(entries, all[:min(len(all), 12)]...) {
			got, ok := impl.TreeDrop(r.t, e.Key, e.Id)
			want, well := plainTreeDrop(r.t, e.Key, e.Id)
			wantTreeOrNone(t, fmt.Sprint(r.name, ", ", e), got, ok, want, well)
			count[well]++
		}
	}
	if count[true] < 200 || count[false] < 500 {
		t.Errorf("TreeDrop: %v", count)
	}
}
