package tests

import (
	"slices"
	"testing"

	"loop.example/g00252/impl"
)

// imageOf is a record of a page as it is given.
func imageOf(lsn int, page int, p impl.Page) impl.Record {
	return impl.Record{Kind: impl.RecImage, Lsn: lsn, Page: page, Data: plainPage(p)}
}

// tupleRecord is a record of a tuple that comes into a slot.
func tupleRecord(lsn int, page int, slot int, a impl.Tuple) impl.Record {
	return dataRecord(lsn, page, slot, plainTuple(a))
}

// dataRecord is a record of bytes that come into a slot, whatever they are.
func dataRecord(lsn int, page int, slot int, data []byte) impl.Record {
	return impl.Record{Kind: impl.RecPut, Lsn: lsn, Xid: 3, Page: page, Slot: slot, Data: data}
}

// plainRedoOne is what the document says of RedoOne, word by word, over the plain readings of the chapters ahead.
func plainRedoOne(h impl.Heap, r impl.Record) (impl.Heap, bool) {
	if !plainHeapOk(h) || !plainOk(r) {
		return impl.Heap{}, false
	}
	after := cloneHeap(h)
	if r.Kind == impl.RecCommit {
		return after, true
	}
	for len(after.Pages) <= r.Page {
		after.Pages = append(after.Pages, impl.Page{})
	}
	if after.Pages[r.Page].Lsn >= r.Lsn {
		return after, true
	}
	ok := false
	switch r.Kind {
	case impl.RecImage:
		after.Pages[r.Page], ok = plainPageRead(r.Data)
		after.Pages[r.Page].Lsn = r.Lsn
	case impl.RecPut:
		after.Pages[r.Page], ok = plainPut(after.Pages[r.Page], r.Slot, r.Data, r.Lsn)
	case impl.RecMark:
		after, ok = plainHeapMark(after, r.Page, r.Slot, r.Xid, r.Lsn)
	case impl.RecClear:
		after, ok = plainHeapClear(after, r.Page, r.Slot, r.Lsn)
	}
	if !ok || !plainHeapOk(after) {
		return impl.Heap{}, false
	}
	return after, true
}

func plainRedoAll(h impl.Heap, l []impl.Record) (impl.Heap, int) {
	if !plainHeapOk(h) {
		return impl.Heap{}, 0
	}
	for i, r := range l {
		after, ok := plainRedoOne(h, r)
		if !ok {
			return h, i
		}
		h = after
	}
	return h, len(l)
}

func plainRedoList(list []int, l []impl.Record, next int) ([]int, int) {
	if len(list) > mostStatuses || next < 1 || next > mostStatuses {
		return nil, 0
	}
	after := next
	for _, r := range l {
		if !plainOk(r) {
			return nil, 0
		}
		if r.Xid >= after {
			after = r.Xid + 1
		}
		if r.Kind == impl.RecCommit {
			list, _ = plainStatusSet(list, r.Xid, done)
		}
	}
	return plainSettle(list, after), after
}

// wantRedone asks RedoOne for this heap, and RedoAll of the one record for the same.
func wantRedone(t *testing.T, name string, h impl.Heap, r impl.Record, want impl.Heap) {
	t.Helper()
	got, ok := impl.RedoOne(h, r)
	wantHeap(t, name+": RedoOne", got, ok, want)
	all, n := impl.RedoAll(h, []impl.Record{r})
	wantHeap(t, name+": RedoAll", all, n == 1, want)
}

// wantNotRedone asks RedoOne for the zero value and false, and RedoAll of the one record for the heap as it was.
func wantNotRedone(t *testing.T, name string, h impl.Heap, r impl.Record) {
	t.Helper()
	got, ok := impl.RedoOne(h, r)
	wantNoHeap(t, name+": RedoOne", got, ok)
	want := h
	if !plainHeapOk(h) {
		want = impl.Heap{}
	}
	all, n := impl.RedoAll(h, []impl.Record{r})
	wantHeap(t, name+": RedoAll", all, n == 0, want)
}

// wantRedoneAsPlainly holds RedoOne against the plain reading, and tells whether it was done.
func wantRedoneAsPlainly(t *testing.T, name string, h impl.Heap, r impl.Record) bool {
	t.Helper()
	want, ok := plainRedoOne(h, r)
	if ok {
		wantRedone(t, name, h, r, want)
	} else {
		wantNotRedone(t, name, h, r)
	}
	return ok
}

func wantAllRedone(t *testing.T, name string, h impl.Heap, l []impl.Record, want impl.Heap, count int) {
	t.Helper()
	if got, n := impl.RedoAll(h, l); n != count || !sameHeap(got, want) {
		t.Errorf("%s: RedoAll of %d records has done %d and gives %v, want %d and %v", name, len(l), n, got, count, want)
	}
}

func wantList(t *testing.T, name string, list []int, l []impl.Record, next int, want []int, after int) {
	t.Helper()
	if got, n := impl.RedoList(list, l, next); n != after || !slices.Equal(got, want) {
		t.Errorf("%s: RedoList is %v, %d, want %v, %d", name, got, n, want, after)
	}
}

func wantNoList(t *testing.T, name string, list []int, l []impl.Record, next int) {
	t.Helper()
	wantList(t, name, list, l, next, nil, 0)
}

// withPage is a copy of the heap with another page there.
func withPage(h impl.Heap, page int, p impl.Page) impl.Heap {
	after := cloneHeap(h)
	after.Pages[page] = clonePage(p)
	return after
}

// someData are bytes of a slot: mostly a tuple's.
func someData(x uint64) []byte {
	if x>>20%12 == 0 {
		wrong := noTupleSlots()
		return wrong[x>>30%uint64(len(wrong))]
	}
	return plainTuple(someTuple(x))
}

// someImage are PageSize bytes: mostly a page of tuples.
func someImage(x uint64) []byte {
	switch x >> 20 % 12 {
	case 0:
		return someBytes(pageSize, x)
	case 1:
		return plainPage(sizedPage(int(x>>30%50), 10, 0, 20))
	case 2:
		return make([]byte, pageSize)
	case 3:
		return make([]byte, pageSize+1)
	}
	return plainPage(somePage(x))
}

// someRecord is one that mostly can be done again over this heap, or finds its page younger; the seed fixes it.
func someRecord(h impl.Heap, seed uint64) impl.Record {
	x := someBits(8, seed)
	pick := func(i int, n int) int { return int(x[i] >> 20 % uint64(n)) }
	r := impl.Record{Kind: 1 + pick(0, 5), Page: min(pick(1, len(h.Pages)+2), mostPages-oneIf(pick(2, 50) > 0)), Slot: pick(3, 6)}
	var p impl.Page
	if r.Page < len(h.Pages) {
		p = h.Pages[r.Page]
	}
	r.Lsn = p.Lsn + []int{-7, -1, 0, 1, 1, 1, 2, 300}[pick(4, 8)]
	if pick(5, 20) > 0 {
		r.Lsn = max(r.Lsn, 1)
	}
	switch r.Kind {
	case impl.RecImage:
		r.Slot, r.Data = 0, someImage(x[6])
	case impl.RecPut:
		r.Xid, r.Data = 1+pick(7, 12), someData(x[6])
	case impl.RecMark:
		r.Xid = 1 + pick(7, 12)
	case impl.RecCommit:
		r.Xid, r.Page, r.Slot = 1+pick(7, 12), 0, 0
	}
	return r
}
