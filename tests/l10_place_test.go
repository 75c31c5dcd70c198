package tests

import (
	"fmt"
	"testing"

	"loop.example/g00252/impl"
)

func TestHeapPlacePlainly(t *testing.T) {
	hole := tuplesPage(5, 20, 0, 30)
	for _, x := range []struct {
		name       string
		h          impl.Heap
		n          int
		page, slot int
	}{
		{"no page", impl.Heap{}, 20, 0, 0},
		{"the zero page", heapOf(impl.Page{}), 20, 0, 0},
		{"a free slot in the first page", heapOf(hole, hole), 20, 0, 1},
		{"a free slot first of all", heapOf(tuplesPage(5, 0, 30, 0, 30), hole), 20, 0, 0},
		{"a free slot in a later page", heapOf(fullPage(1), fullPage(2), hole), 20, 2, 1},
		{"behind the last slot of the first page", heapOf(tuplesPage(5, 20, 30), hole), 20, 0, 2},
		{"behind the last slot of a later page", heapOf(fullPage(1), tuplesPage(5, 20, 30), hole), 20, 1, 2},
		{"a page without tuples behind a full one", heapOf(fullPage(1), noTuples(2), hole), 20, 1, 0},
		{"in no page", heapOf(fullPage(1), fullPage(2)), 20, 2, 0},
		{"in no page, one byte", heapOf(fullPage(1), fullPage(2)), 1, 2, 0},
		{"room for these in the second alone", heapOf(tuplesPage(5, 92, 92), tuplesPage(5, 92, 91)), 53, 1, 2},
		{"room for these in both", heapOf(tuplesPage(5, 92, 92), tuplesPage(5, 92, 91)), 52, 0, 2},
		{"room for these in none", heapOf(tuplesPage(5, 92, 92), tuplesPage(5, 92, 91)), 54, 2, 0},
		{"a free slot that has no room, room behind no slot", heapOf(tuplesPage(5, 92, 0, 92, 20), hole), 32, 1, 1},
		{"a free slot that has just the room", heapOf(tuplesPage(5, 92, 0, 92, 20), hole), 31, 0, 1},
		{"MaxSlots slots, none of them free", heapOf(tuplesPage(5, sizesOf(mostSlots, leastTuple)...)), 12, 1, 0},
		{"MaxSlots slots, one of them free", heapOf(tuplesPage(5, append([]int{12, 0}, sizesOf(14, 12)...)...)), 12, 0, 1},
		{"one page less than MaxPages, all full", pagesOf(mostPages-1, fullPage), 1, mostPages - 1, 0},
		{"MaxPages, all full", pagesOf(mostPages, fullPage), 1, -1, -1},
		{"MaxPages, all full, MaxTuple bytes", pagesOf(mostPages, fullPage), 92, -1, -1},
		{"MaxPages, room in all", pagesOf(mostPages, someTuples), 92, 0, 1},
		{"MaxPages, none with tuples", pagesOf(mostPages, noTuples), 92, 0, 0},
	} {
		wantPlace(t, x.name, x.h, x.n, x.page, x.slot)
	}
}

func TestHeapPlaceInTheLastPageOfMaxPages(t *testing.T) {
	h := pagesOf(mostPages, fullPage)
	h.Pages[mostPages-1] = tuplesPage(9, 92, 0, 92, 20)
	wantPlace(t, "just the room", h, 31, mostPages-1, 1)
	wantPlace(t, "one more", h, 32, -1, -1)
	h.Pages[mostPages-1] = noTuples(9)
	wantPlace(t, "no tuples", h, 92, mostPages-1, 0)
}

func TestHeapPlaceOnBothSidesOfItsNumbers(t *testing.T) {
	for _, h := range []impl.Heap{{}, heapOf(impl.Page{}), heapOf(someTuples(1)), pagesOf(mostPages, someTuples)} {
		slot := 0
		if len(impl.HeapRows(h)) > 0 {
			slot = 1
		}
		wantPlace(t, "n 1", h, 1, 0, slot)
		wantPlace(t, "n MaxTuple", h, 92, 0, slot)
		wantPlace(t, "n 0", h, 0, -1, -1)
		wantPlace(t, "n one more than MaxTuple", h, 93, -1, -1)
		for _, n := range past([2]int{1, longestSlot}) {
			wantPlace(t, "n past the edge", h, n, -1, -1)
		}
	}
	for _, n := range past([2]int{1, longestSlot}) {
		wantPlace(t, "n past the edge, in no page", pagesOf(3, fullPage), n, -1, -1)
	}
}

func TestHeapPlaceOfHeapsThatAreNotOk(t *testing.T) {
	for _, w := range append(wrongHeaps(), brokenHeaps()...) {
		for _, n := range []int{-1, 0, 1, 12, 40, 92, 93} {
			wantPlace(t, w.name, w.h, n, -1, -1)
		}
	}
}

func TestHeapPlaceIsAsTheDocumentSays(t *testing.T) {
	heaps := rightHeaps()
	for seed := range uint64(200) {
		heaps = append(heaps, namedHeap{fmt.Sprint("some heap ", seed), someHeap(seed + 9000)})
	}
	for _, r := range heaps {
		for n := -1; n <= longestSlot+2; n++ {
			page, slot := plainHeapPlace(r.h, n)
			wantPlace(t, r.name, r.h, n, page, slot)
		}
	}
}

// Where a place is told HeapPut takes a tuple of so many bytes; where none is told it takes it nowhere.
func TestHeapPlaceIsWhereHeapPutTakesIt(t *testing.T) {
	taken, nowhere := 0, 0
	for _, r := range append(rightHeaps(), namedHeap{"MaxPages, little room", pagesOf(mostPages, func(lsn int) impl.Page { return tuplesPage(lsn, 92, 0, 92, 20) })}) {
		for n := leastTuple; n <= longestSlot; n += 4 {
			a := tupleOfSize(n, 5)
			page, slot := impl.HeapPlace(r.h, n)
			if page >= 0 {
				after, ok := impl.HeapPut(r.h, page, slot, a, 9)
				if !ok {
					t.Errorf("%s: HeapPut refuses %d bytes at %d, %d", r.name, n, page, slot)
				}
				wantAt(t, r.name, after, page, slot, a)
				taken++
				continue
			}
			for page := range mostPages + 1 {
				for slot := range mostSlots + 1 {
					got, ok := impl.HeapPut(r.h, page, slot, a, 9)
					wantNoHeap(t, r.name, got, ok)
				}
			}
			nowhere++
		}
	}
	if taken == 0 || nowhere == 0 {
		t.Errorf("taken: %d, nowhere: %d", taken, nowhere)
	}
}
