package tests

import (
	"math"
	"slices"
	"testing"

	"loop.example/g00252/impl"
)

func TestTreeAllAndTreeHeightPlainly(t *testing.T) {
	for _, x := range []struct {
		name   string
		t      impl.Tree
		height int
		want   []impl.Entry
	}{
		{"a leaf without entries", treeOf(0, leafOf()), 1, nil},
		{"a leaf with one entry", treeOf(0, leafOf(7)), 1, entriesOf(7)},
		{"a full leaf", treeOf(0, leafOf(-3, 0, 2, 9)), 1, entriesOf(-3, 0, 2, 9)},
		{"two levels", twoLevels(), 2, entriesOf(1, 5, 10, 15, 20, 25)},
		{"two levels, nodes not in the order of their entries", treeOf(1, leafOf(20, 25), nodeOf([]int{3, 2, 0}, 10, 20), leafOf(10, 15), leafOf(1, 5)), 2, entriesOf(1, 5, 10, 15, 20, 25)},
		{"three levels", threeLevels(), 3, entriesOf(1, 5, 10, 15, 22, 25, 31, 35, 40, 45, 50, 55)},
		{"the first leaf empty", emptyLeaves(0), 3, entriesOf(10, 15, 22, 25, 31, 35, 40, 45, 50, 55)},
		{"leaves between empty", emptyLeaves(2, 3), 3, entriesOf(1, 5, 10, 15, 40, 45, 50, 55)},
		{"the last leaf empty", emptyLeaves(5), 3, entriesOf(1, 5, 10, 15, 22, 25, 31, 35, 40, 45)},
		{"all leaves but one empty", emptyLeaves(0, 1, 2, 3, 5), 3, entriesOf(40, 45)},
		{"all leaves empty", emptyLeaves(0, 1, 2, 3, 4, 5), 3, nil},
		{"as deep as can be", levelled(0, 1, 2, 4, 8, 16, 32, 64, 128), 8, nil},
		{"entries with Ids", idsOver(intItem(5)), 2, []impl.Entry{entryOf(math.MinInt, 9), entryOf(5, 0), entryOf(5, 1), entryOf(5, 7), entryOf(5, 8), entryOf(5, 200), entryOf(5, lastId), {Key: longText("\xFF"), Id: 3}}},
	} {
		wantEntries(t, x.name, impl.TreeAll(x.t), x.want)
		if got := impl.TreeHeight(x.t); got != x.height {
			t.Errorf("%s: TreeHeight is %d, want %d", x.name, got, x.height)
		}
	}
}

func TestTreeAllAndTreeHeightOfRightTrees(t *testing.T) {
	for _, r := range rightTrees() {
		wantEntries(t, r.name, impl.TreeAll(r.t), plainTreeAll(r.t))
		if got := impl.TreeHeight(r.t); got != plainHeight(r.t) || got == 0 {
			t.Errorf("%s: TreeHeight is %d", r.name, got)
		}
	}
}

func TestTreesThatAreNotOkHaveNoEntriesAndNoHeight(t *testing.T) {
	for _, w := range slices.Concat(wrongTrees(), treesOfNoEntry()) {
		wantEntries(t, w.name, impl.TreeAll(w.t), nil)
		if got := impl.TreeHeight(w.t); got != 0 {
			t.Errorf("%s: TreeHeight is %d", w.name, got)
		}
	}
}

func TestTreeHeightOfEachNumberOfLevels(t *testing.T) {
	counts := []int{1, 2, 4, 8, 16, 32, 64, 128}
	for levels := 1; levels <= len(counts); levels++ {
		for n := range mostFan + 1 {
			if got := impl.TreeHeight(levelled(n, counts[:levels]...)); got != levels {
				t.Errorf("TreeHeight of %d levels is %d", levels, got)
			}
		}
	}
}
