package tests

import (
	"fmt"
	"testing"

	"loop.example/g00252/impl"
)

// markHeap has tuples without an Xmax and with one, free slots, and a page without tuples.
func markHeap() impl.Heap {
	a, b, c := tupleOfSize(20, 1), tupleOfSize(30, 2), oneTuple()
	b.Xmax = lastXid
	return heapOf(pageWith(4, a, impl.Tuple{}, b), noTuples(6), pageWith(5, c, a))
}

func TestHeapMarkPlainly(t *testing.T) {
	for _, x := range []struct {
		name       string
		page, slot int
		xmax       int
	}{
		{"no Xmax before", 0, 0, 7},
		{"no Xmax before, none now", 0, 0, 0},
		{"no Xmax before, its own Xmin", 0, 0, 2},
		{"no Xmax before, MaxXid", 0, 0, lastXid},
		{"another Xmax before", 0, 2, 7},
		{"another Xmax before, none now", 0, 2, 0},
		{"the same Xmax before", 0, 2, lastXid},
		{"another Xmax before, 1", 0, 2, 1},
		{"in the last page", 2, 0, 300},
		{"the last slot of the last page", 2, 1, 256},
	} {
		h := markHeap()
		before, _ := plainAt(h, x.page, x.slot)
		got, ok := impl.HeapMark(h, x.page, x.slot, x.xmax, 9)
		want := markHeap()
		marked := before
		marked.Xmax = x.xmax
		want.Pages[x.page].Slots[x.slot], want.Pages[x.page].Lsn = plainTuple(marked), 9
		wantHeap(t, x.name, got, ok, want)
		wantAt(t, x.name, got, x.page, x.slot, marked)
	}
}

func TestHeapMarkOnBothSidesOfItsNumbers(t *testing.T) {
	for _, xmax := range append(someXids(), 0) {
		got, ok := impl.HeapMark(markHeap(), 0, 2, xmax, 9)
		if a, _ := impl.HeapAt(got, 0, 2); !ok || a.Xmax != xmax {
			t.Errorf("Xmax %d: %v %v", xmax, a, ok)
		}
	}
	for _, xmax := range past([2]int{0, lastXid}) {
		got, ok := impl.HeapMark(markHeap(), 0, 2, xmax, 9)
		wantNoHeap(t, fmt.Sprint("Xmax ", xmax), got, ok)
	}
	for _, lsn := range []int{1, 2, 4, 5, 256, lastLsn - 1, lastLsn} {
		got, ok := impl.HeapMark(markHeap(), 0, 2, 7, lsn)
		want, _ := plainHeapMark(markHeap(), 0, 2, 7, lsn)
		wantHeap(t, fmt.Sprint("lsn ", lsn), got, ok, want)
		if !ok || got.Pages[0].Lsn != lsn || got.Pages[1].Lsn != 6 || got.Pages[2].Lsn != 5 {
			t.Errorf("lsn %d: %v", lsn, got)
		}
	}
	for _, lsn := range append(wrongLsns(), 0) {
		got, ok := impl.HeapMark(markHeap(), 0, 2, 7, lsn)
		wantNoHeap(t, fmt.Sprint("lsn ", lsn), got, ok)
	}
}

// noPlaces are places at which markHeap has no tuple.
func noPlaces() [][2]int {
	l := [][2]int{{0, 1}, {0, 3}, {0, 15}, {0, 16}, {1, 0}, {2, 2}, {3, 0}, {15, 0}, {16, 0}, {-1, 0}, {0, -1}, {-1, -1}, {3, 3}}
	for _, n := range past([2]int{0, 15}) {
		l = append(l, [2]int{n, 0}, [2]int{0, n}, [2]int{n, n})
	}
	return l
}

func TestHeapMarkAndHeapClearWhereThereIsNone(t *testing.T) {
	for _, place := range noPlaces() {
		name := fmt.Sprint(place)
		wantNothingAt(t, name, markHeap(), place[0], place[1])
		got, ok := impl.HeapMark(markHeap(), place[0], place[1], 7, 9)
		wantNoHeap(t, "HeapMark at "+name, got, ok)
		got, ok = impl.HeapClear(markHeap(), place[0], place[1], 9)
		wantNoHeap(t, "HeapClear at "+name, got, ok)
		got, ok = impl.HeapMark(impl.Heap{}, place[0], place[1], 7, 9)
		wantNoHeap(t, "HeapMark of no page at "+name, got, ok)
		got, ok = impl.HeapClear(impl.Heap{}, place[0], place[1], 9)
		wantNoHeap(t, "HeapClear of no page at "+name, got, ok)
	}
}

func TestHeapMarkAndHeapClearOfHeapsThatAreNotOk(t *testing.T) {
	for _, w := range append(wrongHeaps(), brokenHeaps()...) {
		for page := range min(len(w.h.Pages), 17) {
			for slot := range min(len(w.h.Pages[page].Slots), 17) {
				got, ok := impl.HeapMark(w.h, page, slot, 7, 9)
				wantNoHeap(t, "HeapMark of "+w.name, got, ok)
				got, ok = impl.HeapClear(w.h, page, slot, 9)
				wantNoHeap(t, "HeapClear of "+w.name, got, ok)
			}
		}
	}
}

func TestHeapMarkOfEachTuple(t *testing.T) {
	for _, a := range rightTuples() {
		h := heapOf(noTuples(3), pageWith(4, impl.Tuple{}, a))
		for _, xmax := range []int{0, 1, 257, lastXid} {
			got, ok := impl.HeapMark(h, 1, 1, xmax, 9)
			marked := a
			marked.Xmax = xmax
			wantHeap(t, "a right tuple", got, ok, heapOf(noTuples(3), pageWith(9, impl.Tuple{}, marked)))
		}
	}
}

// A page without any room for more still has its tuples marked: a mark makes nothing longer.
func TestHeapMarkInFullPages(t *testing.T) {
	h := pagesOf(mostPages, fullPage)
	for page := range mostPages {
		for slot := range 3 {
			got, ok := impl.HeapMark(h, page, slot, lastXid, lastLsn)
			want, _ := plainHeapMark(h, page, slot, lastXid, lastLsn)
			wantHeap(t, "a full page", got, ok, want)
		}
	}
}

func TestHeapClearPlainly(t *testing.T) {
	a, b, c := tupleOfSize(20, 1), tupleOfSize(30, 2), oneTuple()
	var free impl.Tuple
	for _, x := range []struct {
		name       string
		h          impl.Heap
		page, slot int
		want       impl.Heap
	}{
		{"the only tuple", heapOf(pageWith(4, a)), 0, 0, heapOf(noTuples(9))},
		{"the only tuple, behind free slots", heapOf(pageWith(4, free, free, a)), 0, 2, heapOf(noTuples(9))},
		{"the only tuple of the first page", heapOf(pageWith(4, a), pageWith(5, b)), 0, 0, heapOf(noTuples(9), pageWith(5, b))},
		{"the only tuple of the last page", heapOf(pageWith(4, a), pageWith(5, b)), 1, 0, heapOf(pageWith(4, a), noTuples(9))},
		{"the first slot", heapOf(pageWith(4, a, b, c)), 0, 0, heapOf(pageWith(9, free, b, c))},
		{"a middle slot", heapOf(pageWith(4, a, b, c)), 0, 1, heapOf(pageWith(9, a, free, c))},
		{"the last slot", heapOf(pageWith(4, a, b, c)), 0, 2, heapOf(pageWith(9, a, b))},
		{"the last slot behind free ones", heapOf(pageWith(4, a, free, free, c)), 0, 3, heapOf(pageWith(9, a))},
		{"a middle slot between free ones", heapOf(pageWith(4, a, free, b, free, c)), 0, 2, heapOf(pageWith(9, a, free, free, free, c))},
		{"in a middle page", heapOf(pageWith(4, a), pageWith(5, b, c), pageWith(6, c)), 1, 0, heapOf(pageWith(4, a), pageWith(9, free, c), pageWith(6, c))},
		{"one of two that are alike", heapOf(pageWith(4, a, a)), 0, 0, heapOf(pageWith(9, free, a))},
	} {
		got, ok := impl.HeapClear(x.h, x.page, x.slot, 9)
		wantHeap(t, x.name, got, ok, x.want)
		wantNothingAt(t, x.name, got, x.page, x.slot)
	}
}

func TestHeapClearOnBothSidesOfItsNumbers(t *testing.T) {
	for _, place := range [][2]int{{0, 0}, {0, 2}, {2, 0}, {2, 1}} {
		for _, lsn := range []int{1, 2, 4, 5, 256, lastLsn - 1, lastLsn} {
			got, ok := impl.HeapClear(markHeap(), place[0], place[1], lsn)
			want, _ := plainHeapClear(markHeap(), place[0], place[1], lsn)
			wantHeap(t, fmt.Sprint("lsn ", lsn), got, ok, want)
			if !ok || got.Pages[place[0]].Lsn != lsn || got.Pages[1].Lsn != 6 {
				t.Errorf("lsn %d: %v", lsn, got)
			}
		}
		for _, lsn := range append(wrongLsns(), 0) {
			got, ok := impl.HeapClear(markHeap(), place[0], place[1], lsn)
			wantNoHeap(t, fmt.Sprint("lsn ", lsn), got, ok)
		}
	}
}

// What was cleared is free for what is put behind it, also for the same again.
func TestHeapPutWhereItWasCleared(t *testing.T) {
	h := markHeap()
	for _, r := range plainRows(h) {
		cleared, _ := impl.HeapClear(h, r.Page, r.Slot, 9)
		got, ok := impl.HeapPut(cleared, r.Page, r.Slot, r.Tuple, 10)
		want := markHeap()
		want.Pages[r.Page].Lsn = 10
		wantHeap(t, "put again", got, ok, want)
	}
}

func TestHeapMarkAndHeapClearOfRightHeaps(t *testing.T) {
	count := map[bool]int{}
	for _, r := range rightHeaps() {
		for page := -1; page <= len(r.h.Pages); page++ {
			for slot := -1; slot <= mostSlots; slot++ {
				name := fmt.Sprintf("%s: %d, %d", r.name, page, slot)
				got, ok := impl.HeapMark(r.h, page, slot, 123, 77)
				want, well := plainHeapMark(r.h, page, slot, 123, 77)
				wantHeapOrNone(t, "HeapMark, "+name, got, ok, want, well)
				got, ok = impl.HeapClear(r.h, page, slot, 77)
				want, well = plainHeapClear(r.h, page, slot, 77)
				wantHeapOrNone(t, "HeapClear, "+name, got, ok, want, well)
				count[well]++
			}
		}
	}
	if count[true] < 50 || count[false] < 50 {
		t.Errorf("HeapClear: %v", count)
	}
}
