package tests

import (
	"testing"

	"loop.example/g00252/impl"
)

func TestHeapRowsPlainly(t *testing.T) {
	a, b, c := tupleOfSize(20, 1), tupleOfSize(30, 2), oneTuple()
	var free impl.Tuple
	for _, x := range []struct {
		name string
		h    impl.Heap
		want []impl.Row
	}{
		{"no page", impl.Heap{}, nil},
		{"the zero page", heapOf(impl.Page{}), nil},
		{"pages without tuples", pagesOf(3, noTuples), nil},
		{"MaxPages without tuples", pagesOf(mostPages, noTuples), nil},
		{"one", heapOf(pageWith(1, a)), []impl.Row{{Page: 0, Slot: 0, Tuple: a}}},
		{"one behind free slots", heapOf(pageWith(1, free, free, a)), []impl.Row{{Page: 0, Slot: 2, Tuple: a}}},
		{"one behind pages without tuples", heapOf(noTuples(1), noTuples(2), pageWith(1, free, a)), []impl.Row{{Page: 2, Slot: 1, Tuple: a}}},
		{"two in a page", heapOf(pageWith(1, b, a)), []impl.Row{{Page: 0, Slot: 0, Tuple: b}, {Page: 0, Slot: 1, Tuple: a}}},
		{"two in two pages", heapOf(pageWith(9, b), pageWith(1, a)), []impl.Row{{Page: 0, Slot: 0, Tuple: b}, {Page: 1, Slot: 0, Tuple: a}}},
		{"the same twice", heapOf(pageWith(1, a, a)), []impl.Row{{Page: 0, Slot: 0, Tuple: a}, {Page: 0, Slot: 1, Tuple: a}}},
		{
			"several pages with free slots between",
			heapOf(pageWith(1, c, free, b), noTuples(4), pageWith(3, free, a, free, free, c, b)),
			[]impl.Row{
				{Page: 0, Slot: 0, Tuple: c}, {Page: 0, Slot: 2, Tuple: b},
				{Page: 2, Slot: 1, Tuple: a}, {Page: 2, Slot: 4, Tuple: c}, {Page: 2, Slot: 5, Tuple: b},
			},
		},
	} {
		wantRows(t, x.name, impl.HeapRows(x.h), x.want)
	}
}

func TestHeapRowsOfEachTuple(t *testing.T) {
	for _, a := range rightTuples() {
		h := heapOf(noTuples(1), impl.Page{Slots: [][]byte{nil, plainTuple(a)}})
		wantRows(t, "a tuple alone", impl.HeapRows(h), []impl.Row{{Page: 1, Slot: 1, Tuple: a}})
		wantAt(t, "a tuple alone", h, 1, 1, a)
	}
}

func TestHeapRowsOfAFullHeap(t *testing.T) {
	h := pagesOf(mostPages, func(lsn int) impl.Page { return tuplesPage(lsn, sizesOf(mostSlots, leastTuple)...) })
	rows := impl.HeapRows(h)
	if len(rows) != mostPages*mostSlots {
		t.Fatalf("%d rows", len(rows))
	}
	for i, r := range rows {
		if r.Page != i/mostSlots || r.Slot != i%mostSlots {
			t.Errorf("row %d stands at %d, %d", i, r.Page, r.Slot)
		}
	}
}

func TestHeapRowsAndHeapAtOfHeapsThatAreNotOk(t *testing.T) {
	for _, w := range append(wrongHeaps(), brokenHeaps()...) {
		wantRows(t, w.name, impl.HeapRows(w.h), nil)
		for page := range min(len(w.h.Pages), mostPages+2) {
			for slot := range min(len(w.h.Pages[page].Slots), mostSlots+2) {
				wantNothingAt(t, w.name, w.h, page, slot)
			}
		}
	}
}

func TestHeapAtPlainly(t *testing.T) {
	a, b, c := tupleOfSize(20, 1), tupleOfSize(30, 2), oneTuple()
	h := heapOf(pageWith(1, a, impl.Tuple{}, b), noTuples(5), pageWith(2, c))
	wantAt(t, "the first", h, 0, 0, a)
	wantNothingAt(t, "a free slot", h, 0, 1)
	wantAt(t, "behind a free slot", h, 0, 2, b)
	wantNothingAt(t, "behind the last slot", h, 0, 3)
	wantNothingAt(t, "MaxSlots", h, 0, mostSlots)
	wantNothingAt(t, "a page without tuples", h, 1, 0)
	wantAt(t, "the last page", h, 2, 0, c)
	wantNothingAt(t, "behind its last slot", h, 2, 1)
	wantNothingAt(t, "behind the last page", h, 3, 0)
	wantNothingAt(t, "MaxPages", h, mostPages, 0)
	wantNothingAt(t, "page below 0", h, -1, 0)
	wantNothingAt(t, "slot below 0", h, 0, -1)
	wantNothingAt(t, "both below 0", h, -1, -1)
	wantNothingAt(t, "no page", impl.Heap{}, 0, 0)
	wantNothingAt(t, "no page, below 0", impl.Heap{}, -1, -1)
}

func TestHeapAtByItsNumbers(t *testing.T) {
	h := pagesOf(mostPages, func(lsn int) impl.Page { return tuplesPage(lsn, sizesOf(mostSlots, leastTuple)...) })
	for _, page := range past([2]int{0, mostPages - 1}) {
		for slot := range mostSlots {
			wantNothingAt(t, "a page past the edge", h, page, slot)
		}
	}
	for _, slot := range past([2]int{0, mostSlots - 1}) {
		for page := range mostPages {
			wantNothingAt(t, "a slot past the edge", h, page, slot)
		}
		for _, page := range past([2]int{0, mostPages - 1}) {
			wantNothingAt(t, "both past the edge", h, page, slot)
		}
	}
}

// What lies behind the lengths is not there: neither pages nor slots.
func TestHeapRowsDoNotLookBehindTheLists(t *testing.T) {
	whole := pagesOf(3, someTuples)
	cut := impl.Heap{Pages: whole.Pages[:1]}
	wantNothingAt(t, "a page behind the list", cut, 1, 0)
	wantRows(t, "pages behind the list", impl.HeapRows(cut), plainRows(heapOf(someTuples(1))))
	p := tuplesPage(1, 20, 30, 40)
	cut = heapOf(impl.Page{Lsn: 1, Slots: p.Slots[:2]})
	wantNothingAt(t, "a slot behind the list", cut, 0, 2)
	wantRows(t, "slots behind the list", impl.HeapRows(cut), plainRows(heapOf(impl.Page{Lsn: 1, Slots: p.Slots[:2:2]})))
	wrong := impl.Heap{Pages: append(pagesOf(2, someTuples).Pages, tuplesPage(-1, 0))[:2]}
	wantRows(t, "no page behind the list", impl.HeapRows(wrong), plainRows(pagesOf(2, someTuples)))
}

func TestHeapRowsAreAsTheDocumentSays(t *testing.T) {
	count := 0
	for seed := range uint64(300) {
		h := someHeap(seed)
		rows := impl.HeapRows(h)
		count += len(rows)
		wantRows(t, "some heap", rows, plainRows(h))
		for page := -1; page <= len(h.Pages); page++ {
			for slot := -1; slot <= mostSlots; slot++ {
				if want, ok := plainAt(h, page, slot); ok {
					wantAt(t, "some heap", h, page, slot, want)
				} else {
					wantNothingAt(t, "some heap", h, page, slot)
				}
			}
		}
	}
	if count < 1000 {
		t.Errorf("only %d rows in all", count)
	}
}

func TestHeapRowsOfRightHeaps(t *testing.T) {
	for _, r := range rightHeaps() {
		wantRows(t, r.name, impl.HeapRows(r.h), plainRows(r.h))
	}
}
