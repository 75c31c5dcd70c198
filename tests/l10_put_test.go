package tests

import (
	"fmt"
	"testing"

	"loop.example/g00252/impl"
)

func TestHeapPutPlainly(t *testing.T) {
	a, b, c := tupleOfSize(20, 1), tupleOfSize(30, 2), oneTuple()
	var free impl.Tuple
	two := heapOf(pageWith(4, a, free, b), pageWith(5, b))
	for _, x := range []struct {
		name       string
		h          impl.Heap
		page, slot int
		want       impl.Heap
	}{
		{"the first page of all", impl.Heap{}, 0, 0, heapOf(pageWith(9, c))},
		{"the first page of all, behind a free slot", impl.Heap{}, 0, 1, heapOf(pageWith(9, free, c))},
		{"the first page of all, last slot", impl.Heap{}, 0, 15, heapOf(pageWith(9, free, free, free, free, free, free, free, free, free, free, free, free, free, free, free, c))},
		{"a page without tuples", heapOf(noTuples(4)), 0, 0, heapOf(pageWith(9, c))},
		{"the zero page", heapOf(impl.Page{}), 0, 2, heapOf(pageWith(9, free, free, c))},
		{"a free slot", two, 0, 1, heapOf(pageWith(9, a, c, b), pageWith(5, b))},
		{"behind the last slot", two, 0, 3, heapOf(pageWith(9, a, free, b, c), pageWith(5, b))},
		{"behind the last slot of the last page", two, 1, 1, heapOf(pageWith(4, a, free, b), pageWith(9, b, c))},
		{"slots between that there were not", two, 1, 3, heapOf(pageWith(4, a, free, b), pageWith(9, b, free, free, c))},
		{"the page behind the last one", two, 2, 0, heapOf(pageWith(4, a, free, b), pageWith(5, b), pageWith(9, c))},
		{"the page behind the last one, behind a free slot", two, 2, 1, heapOf(pageWith(4, a, free, b), pageWith(5, b), pageWith(9, free, c))},
	} {
		got, ok := impl.HeapPut(x.h, x.page, x.slot, c, 9)
		wantHeap(t, x.name, got, ok, x.want)
	}
}

func TestHeapPutIntoTheLastPages(t *testing.T) {
	c := oneTuple()
	less := pagesOf(mostPages-1, someTuples)
	got, ok := impl.HeapPut(less, mostPages-1, 0, c, 9)
	wantHeap(t, "page MaxPages - 1, new", got, ok, impl.Heap{Pages: append(pagesOf(mostPages-1, someTuples).Pages, pageWith(9, c))})
	got, ok = impl.HeapPut(less, mostPages, 0, c, 9)
	wantNoHeap(t, "page MaxPages, two behind the last one", got, ok)
	most := pagesOf(mostPages, someTuples)
	got, ok = impl.HeapPut(most, mostPages-1, 1, c, 9)
	wantAt(t, "page MaxPages - 1, a free slot", got, mostPages-1, 1, c)
	if !ok || got.Pages[mostPages-1].Lsn != 9 {
		t.Errorf("page MaxPages - 1: %v %v", got, ok)
	}
	for slot := range 3 {
		got, ok = impl.HeapPut(most, mostPages, slot, c, 9)
		wantNoHeap(t, "page MaxPages", got, ok)
	}
}

// Each refusal for one reason alone: beside it the same call is taken.
func TestHeapPutOnBothSidesOfEachReason(t *testing.T) {
	c := oneTuple()
	two := heapOf(tuplesPage(4, 20, 0, 30), tuplesPage(5, 30))
	narrow := heapOf(tuplesPage(4, 92, 0, 92), someTuples(2))
	for _, x := range []struct {
		name       string
		h          impl.Heap
		page, slot int
		a          impl.Tuple
		lsn        int
		well       bool
	}{
		{"as it is", two, 0, 1, c, 9, true},
		{"a tuple in the first slot", two, 0, 0, c, 9, false},
		{"a tuple in the last slot", two, 0, 2, c, 9, false},
		{"a tuple in the last page", two, 1, 0, c, 9, false},
		{"the same tuple is there", heapOf(pageWith(1, c)), 0, 0, c, 9, false},
		{"page -1", two, -1, 0, c, 9, false},
		{"page -1 and a free slot", two, -1, 1, c, 9, false},
		{"the page behind the last one", two, 2, 0, c, 9, true},
		{"two behind the last one", two, 3, 0, c, 9, false},
		{"two behind none", impl.Heap{}, 1, 0, c, 9, false},
		{"page -1 of none", impl.Heap{}, -1, 0, c, 9, false},
		{"slot -1", two, 0, -1, c, 9, false},
		{"slot MaxSlots - 1", two, 0, 15, c, 9, true},
		{"slot MaxSlots", two, 0, 16, c, 9, false},
		{"slot -1 of a new page", two, 2, -1, c, 9, false},
		{"slot MaxSlots - 1 of a new page", two, 2, 15, c, 9, true},
		{"slot MaxSlots of a new page", two, 2, 16, c, 9, false},
		{"lsn -1", two, 0, 1, c, -1, false},
		{"lsn 0", two, 0, 1, c, 0, false},
		{"lsn 1", two, 0, 1, c, 1, true},
		{"lsn MaxLsn", two, 0, 1, c, lastLsn, true},
		{"lsn one more than MaxLsn", two, 0, 1, c, lastLsn + 1, false},
		{"lsn 0 of a new page", two, 2, 0, c, 0, false},
		{"lsn 1 of a new page", two, 2, 0, c, 1, true},
		{"lsn MaxLsn of a new page", two, 2, 0, c, lastLsn, true},
		{"lsn one more than MaxLsn of a new page", two, 2, 0, c, lastLsn + 1, false},
		{"just the room", narrow, 0, 1, tupleOfSize(52, 1), 9, true},
		{"one byte too many", narrow, 0, 1, tupleOfSize(53, 1), 9, false},
		{"just the room behind the last slot", narrow, 0, 3, tupleOfSize(51, 1), 9, true},
		{"one byte too many behind the last slot", narrow, 0, 3, tupleOfSize(52, 1), 9, false},
		{"just the room with slots between", narrow, 0, 5, tupleOfSize(49, 1), 9, true},
		{"one byte too many with slots between", narrow, 0, 5, tupleOfSize(50, 1), 9, false},
		{"no room in the first page, put into the second", narrow, 1, 1, tupleOfSize(92, 1), 9, true},
		{"the longest tuple into a new page", narrow, 2, 0, tupleOfSize(92, 1), 9, true},
		{"the zero tuple", two, 0, 1, impl.Tuple{}, 9, false},
	} {
		got, ok := impl.HeapPut(x.h, x.page, x.slot, x.a, x.lsn)
		if !x.well {
			wantNoHeap(t, x.name, got, ok)
			continue
		}
		want, _ := plainHeapPut(x.h, x.page, x.slot, x.a, x.lsn)
		wantHeap(t, x.name, got, ok, want)
		wantAt(t, x.name, got, x.page, x.slot, x.a)
	}
}

func TestHeapPutOfEachTuple(t *testing.T) {
	h := heapOf(tuplesPage(4, 20, 0, 30), tuplesPage(5, 30))
	for _, a := range rightTuples() {
		for _, place := range [][2]int{{0, 1}, {1, 4}, {2, 0}} {
			got, ok := impl.HeapPut(h, place[0], place[1], a, 9)
			want, _ := plainHeapPut(h, place[0], place[1], a, 9)
			wantHeap(t, "a right tuple", got, ok, want)
			wantAt(t, "a right tuple", got, place[0], place[1], a)
		}
	}
	for _, w := range wrongTuples() {
		for _, place := range [][2]int{{0, 1}, {1, 4}, {2, 0}} {
			got, ok := impl.HeapPut(h, place[0], place[1], w.t, 9)
			wantNoHeap(t, w.name, got, ok)
		}
	}
}

func TestHeapPutByItsNumbers(t *testing.T) {
	h := heapOf(tuplesPage(4, 20, 0, 30), tuplesPage(5, 30))
	for _, page := range past([2]int{0, 2}) {
		for _, slot := range []int{0, 1, 15} {
			got, ok := impl.HeapPut(h, page, slot, oneTuple(), 9)
			wantNoHeap(t, fmt.Sprint("page ", page), got, ok)
		}
	}
	for _, page := range []int{0, 1, 2} {
		for _, slot := range past([2]int{0, mostSlots - 1}) {
			got, ok := impl.HeapPut(h, page, slot, oneTuple(), 9)
			wantNoHeap(t, fmt.Sprint("slot ", slot), got, ok)
		}
		for _, lsn := range wrongLsns() {
			got, ok := impl.HeapPut(h, page, 7, oneTuple(), lsn)
			wantNoHeap(t, fmt.Sprint("lsn ", lsn), got, ok)
		}
	}
}

// What is put could be what makes a heap of it, or could go into another page; it is refused all the same.
func TestHeapPutIntoHeapsThatAreNotOk(t *testing.T) {
	for _, w := range append(wrongHeaps(), brokenHeaps()...) {
		for page := range min(len(w.h.Pages), 17) + 1 {
			for _, slot := range []int{0, 1, 2, 5} {
				got, ok := impl.HeapPut(w.h, page, slot, tupleOfSize(leastTuple, 1), 9)
				wantNoHeap(t, w.name, got, ok)
			}
		}
	}
}

func TestHeapPutOfRightHeaps(t *testing.T) {
	count := map[bool]int{}
	for _, r := range rightHeaps() {
		for page := -1; page <= len(r.h.Pages)+1; page++ {
			for slot := -1; slot <= mostSlots; slot++ {
				for _, n := range []int{12, 40, 92} {
					a := tupleOfSize(n, 3)
					got, ok := impl.HeapPut(r.h, page, slot, a, 77)
					want, well := plainHeapPut(r.h, page, slot, a, 77)
					wantHeapOrNone(t, fmt.Sprintf("%s: %d bytes at %d, %d", r.name, n, page, slot), got, ok, want, well)
					count[well]++
				}
			}
		}
	}
	if count[true] < 100 || count[false] < 100 {
		t.Errorf("HeapPut: %v", count)
	}
}
