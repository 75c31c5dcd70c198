package tests

import (
	"bytes"
	"slices"
	"testing"

	"loop.example/g00252/impl"
)

// mostPages is chapter 10's limit as the document names it, in numbers.
const mostPages = 16

// The fewest bytes that a tuple has: those of two empty texts.
const leastTuple = 12

func heapOf(pages ...impl.Page) impl.Heap {
	return impl.Heap{Pages: pages}
}

// tupleOfSize has just so many bytes, from leastTuple to longestSlot; the seed fixes which.
func tupleOfSize(n int, seed int) impl.Tuple {
	key := min(n-leastTuple, 40)
	return impl.Tuple{
		Xmin:  1 + seed%lastXid,
		Key:   impl.Item{Kind: impl.ItText, T: slotOf(key, seed+600)},
		Value: impl.Item{Kind: impl.ItText, T: slotOf(n-leastTuple-key, seed+700)},
	}
}

// tuplesPage has a tuple of each of these sizes, each one of its own; 0 is a free slot.
func tuplesPage(lsn int, sizes ...int) impl.Page {
	p := impl.Page{Lsn: lsn}
	for i, n := range sizes {
		var slot []byte
		if n > 0 {
			slot = plainTuple(tupleOfSize(n, lsn*20+i))
		}
		p.Slots = append(p.Slots, slot)
	}
	return p
}

// pageWith has these tuples; a zero value is a free slot.
func pageWith(lsn int, tuples ...impl.Tuple) impl.Page {
	p := impl.Page{Lsn: lsn}
	for _, a := range tuples {
		var slot []byte
		if a.Xmin != 0 {
			slot = plainTuple(a)
		}
		p.Slots = append(p.Slots, slot)
	}
	return p
}

// fullPage has no room for the least tuple, and not even for a byte.
func fullPage(lsn int) impl.Page {
	return tuplesPage(lsn, 92, 92, 52)
}

// pagesOf are n pages, made one by one.
func pagesOf(n int, one func(lsn int) impl.Page) impl.Heap {
	var h impl.Heap
	for i := range n {
		h.Pages = append(h.Pages, one(i+1))
	}
	return h
}

func noTuples(lsn int) impl.Page {
	return impl.Page{Lsn: lsn}
}

func someTuples(lsn int) impl.Page {
	return tuplesPage(lsn, 20, 0, 30)
}

func cloneHeap(h impl.Heap) impl.Heap {
	var c impl.Heap
	for _, p := range h.Pages {
		c.Pages = append(c.Pages, clonePage(p))
	}
	c.Pages = slices.Clip(c.Pages)
	return c
}

func sameHeap(a impl.Heap, b impl.Heap) bool {
	return slices.EqualFunc(a.Pages, b.Pages, samePage)
}

func sameRow(a impl.Row, b impl.Row) bool {
	return a.Page == b.Page && a.Slot == b.Slot && sameTuple(a.Tuple, b.Tuple)
}

func sameRows(a []impl.Row, b []impl.Row) bool {
	return slices.EqualFunc(a, b, sameRow)
}

// plainHeapOk is what the document says of HeapOk, word by word.
func plainHeapOk(h impl.Heap) bool {
	if len(h.Pages) > mostPages {
		return false
	}
	for _, p := range h.Pages {
		if plainUsed(p) < 0 {
			return false
		}
		for _, slot := range p.Slots {
			if _, ok := plainTupleRead(slot); !ok && len(slot) > 0 {
				return false
			}
		}
	}
	return true
}

func plainRows(h impl.Heap) []impl.Row {
	var l []impl.Row
	if !plainHeapOk(h) {
		return nil
	}
	for page, p := range h.Pages {
		for slot, data := range p.Slots {
			if len(data) > 0 {
				a, _ := plainTupleRead(data)
				l = append(l, impl.Row{Page: page, Slot: slot, Tuple: a})
			}
		}
	}
	return l
}

func plainAt(h impl.Heap, page int, slot int) (impl.Tuple, bool) {
	for _, r := range plainRows(h) {
		if r.Page == page && r.Slot == slot {
			return r.Tuple, true
		}
	}
	return impl.Tuple{}, false
}

// plainVersions takes those whose key has the same bytes.
func plainVersions(h impl.Heap, key impl.Item) []impl.Row {
	var l []impl.Row
	for _, r := range plainRows(h) {
		if impl.KeyOk(key) && bytes.Equal(plainKey(r.Tuple.Key), plainKey(key)) {
			l = append(l, r)
		}
	}
	return l
}

func plainHeapPlace(h impl.Heap, n int) (int, int) {
	if !plainHeapOk(h) || n < 1 || n > longestSlot {
		return -1, -1
	}
	for page, p := range h.Pages {
		if slot := plainPlace(p, n); slot >= 0 {
			return page, slot
		}
	}
	if len(h.Pages) == mostPages {
		return -1, -1
	}
	return len(h.Pages), 0
}

// plainWith lays a page over that of a copy, behind the last one too, if it is one.
func plainWith(h impl.Heap, page int, p impl.Page, ok bool) (impl.Heap, bool) {
	if !ok {
		return impl.Heap{}, false
	}
	after := cloneHeap(h)
	if page == len(after.Pages) {
		after.Pages = append(after.Pages, impl.Page{})
	}
	after.Pages[page] = p
	return after, true
}

func plainHeapPut(h impl.Heap, page int, slot int, a impl.Tuple, lsn int) (impl.Heap, bool) {
	_, taken := plainAt(h, page, slot)
	if !plainHeapOk(h) || !impl.TupleOk(a) || taken || page < 0 || page > len(h.Pages) || page >= mostPages {
		return impl.Heap{}, false
	}
	var before impl.Page
	if page < len(h.Pages) {
		before = h.Pages[page]
	}
	p, ok := plainPut(before, slot, plainTuple(a), lsn)
	return plainWith(h, page, p, ok)
}

func plainHeapMark(h impl.Heap, page int, slot int, xmax int, lsn int) (impl.Heap, bool) {
	a, there := plainAt(h, page, slot)
	if !there || xmax < 0 || xmax > lastXid {
		return impl.Heap{}, false
	}
	a.Xmax = xmax
	p, ok := plainPut(h.Pages[page], slot, plainTuple(a), lsn)
	return plainWith(h, page, p, ok)
}

func plainHeapClear(h impl.Heap, page int, slot int, lsn int) (impl.Heap, bool) {
	if _, there := plainAt(h, page, slot); !there {
		return impl.Heap{}, false
	}
	p, ok := plainClear(h.Pages[page], slot, lsn)
	return plainWith(h, page, p, ok)
}

func plainHeapDead(h impl.Heap, l []int, horizon int) []impl.Row {
	var dead []impl.Row
	for _, r := range plainRows(h) {
		if plainDead(l, r.Tuple.Xmin, r.Tuple.Xmax, horizon) {
			dead = append(dead, r)
		}
	}
	return dead
}

// namedHeap is a heap of a test's table.
type namedHeap struct {
	name string
	h    impl.Heap
}

// rightHeaps are heaps that are as the chapter wants them, at its limits too.
func rightHeaps() []namedHeap {
	return []namedHeap{
		{"no page", impl.Heap{}},
		{"an empty list of pages", impl.Heap{Pages: []impl.Page{}}},
		{"the zero page", heapOf(impl.Page{})},
		{"a page without tuples", heapOf(noTuples(7))},
		{"pages without tuples", pagesOf(3, noTuples)},
		{"MaxPages without tuples", pagesOf(mostPages, noTuples)},
		{"one tuple", heapOf(pageWith(5, oneTuple()))},
		{"one tuple behind free slots", heapOf(tuplesPage(5, 0, 0, 0, 40))},
		{"one tuple in the last slot", heapOf(tuplesPage(5, append(sizesOf(mostSlots-1, 0), 40)...))},
		{"free slots between tuples", heapOf(tuplesPage(5, 12, 0, 20, 0, 0, 40))},
		{"free slots as empty lists", heapOf(impl.Page{Lsn: 5, Slots: [][]byte{{}, make([]byte, 0, 8), plainTuple(oneTuple())}})},
		{"the least and the longest tuple", heapOf(tuplesPage(5, leastTuple, longestSlot))},
		{"tuples of each kind", heapOf(pageWith(1, oneTupleOfEach()[:6]...), pageWith(2, oneTupleOfEach()[6:]...))},
		{"MaxSlots tuples", heapOf(tuplesPage(3, sizesOf(mostSlots, leastTuple)...))},
		{"a full page", heapOf(fullPage(1))},
		{"a page without tuples between", heapOf(someTuples(1), noTuples(2), someTuples(3))},
		{"a page without tuples first", heapOf(impl.Page{}, someTuples(3))},
		{"a page without tuples last", heapOf(someTuples(3), impl.Page{})},
		{"full pages and one with room", heapOf(fullPage(1), fullPage(2), someTuples(3))},
		{"Lsn 0 and MaxLsn", heapOf(tuplesPage(0, 40), tuplesPage(lastLsn, 40, 0, 12))},
		{"one page less than MaxPages", pagesOf(mostPages-1, someTuples)},
		{"one full page less than MaxPages", pagesOf(mostPages-1, fullPage)},
		{"MaxPages", pagesOf(mostPages, someTuples)},
		{"MaxPages, all full", pagesOf(mostPages, fullPage)},
		{"one tuple's bytes twice", sharedHeap()},
	}
}

// sharedHeap has slots, and pages, that stand on the same memory.
func sharedHeap() impl.Heap {
	one := plainTuple(oneTuple())
	p := impl.Page{Lsn: 4, Slots: [][]byte{one, one[:0], one}}
	return heapOf(p, p, impl.Page{Lsn: 9, Slots: p.Slots})
}

// noTupleSlots are bytes that a page may have in a slot and that are no tuple's.
func noTupleSlots() [][]byte {
	whole := plainTuple(oneTuple())
	key, value := plainKey(intItem(5)), plainValue(textItem("ab"))
	return [][]byte{
		{0}, {1}, make([]byte, longestSlot), slotOf(40, 3),
		whole[:len(whole)-1], whole[1:], append(bytes.Clone(whole), 0),
		laid(0, 9, key, value), laid(lastXid+1, 9, key, value), laid(7, lastXid+1, key, value),
		laid(7, 9, nil, value), laid(7, 9, key, nil), laid(7, 9, []byte{0}, value), laid(7, 9, key, []byte{0}),
		laid(7, 9, key[:8], value), laid(7, 9, plainBytes(2, 1<<63-1), value),
	}
}

// heaplessPages are pages that no heap may have, each for one reason alone, as far as that can be.
func heaplessPages() []namedPage {
	least := sizesOf(mostSlots+1, leastTuple)
	l := []namedPage{
		{"Lsn -1", tuplesPage(-1, 20)},
		{"Lsn one more than MaxLsn", tuplesPage(lastLsn+1, 20)},
		{"Lsn -1 without slots", noTuples(-1)},
		{"Lsn one more than MaxLsn without slots", noTuples(lastLsn + 1)},
		{"one slot more than MaxSlots", tuplesPage(1, least...)},
		{"one slot more than MaxSlots, all but one free", tuplesPage(1, append(sizesOf(mostSlots, 0), 20)...)},
		{"a slot that is one too long", impl.Page{Lsn: 1, Slots: [][]byte{append(plainTuple(tupleOfSize(92, 1)), 0)}}},
		{"the only slot free", tuplesPage(1, 0)},
		{"the last slot free", tuplesPage(1, 20, 0)},
		{"the last slot an empty list", impl.Page{Lsn: 1, Slots: [][]byte{plainTuple(oneTuple()), {}}}},
		{"one more than PageBody", tuplesPage(1, 92, 92, 53)},
		{"one more than PageBody, a free one between", tuplesPage(1, 92, 0, 92, 52)},
		{"far more than PageBody", tuplesPage(1, sizesOf(mostSlots, 92)...)},
	}
	for _, data := range noTupleSlots() {
		one := plainTuple(tupleOfSize(15, 9))
		l = append(l,
			namedPage{"a slot that is no tuple, alone", impl.Page{Lsn: 1, Slots: [][]byte{data}}},
			namedPage{"a slot that is no tuple, first", impl.Page{Lsn: 1, Slots: [][]byte{data, nil, one}}},
			namedPage{"a slot that is no tuple, between", impl.Page{Lsn: 1, Slots: [][]byte{one, data, nil, one}}},
			namedPage{"a slot that is no tuple, last", impl.Page{Lsn: 1, Slots: [][]byte{one, nil, one, data}}},
		)
	}
	return l
}

// wrongHeaps are heaps that are not HeapOk, each by one page alone or by having one too many.
func wrongHeaps() []namedHeap {
	l := []namedHeap{
		{"one page more than MaxPages", pagesOf(mostPages+1, someTuples)},
		{"one page more than MaxPages, without tuples", pagesOf(mostPages+1, noTuples)},
		{"one zero page more than MaxPages", impl.Heap{Pages: make([]impl.Page, mostPages+1)}},
		{"one full page more than MaxPages", pagesOf(mostPages+1, fullPage)},
		{"twice MaxPages", pagesOf(2*mostPages, someTuples)},
	}
	for _, w := range heaplessPages() {
		l = append(l,
			namedHeap{w.name + ", alone", heapOf(w.p)},
			namedHeap{w.name + ", in the first page", heapOf(w.p, someTuples(2), someTuples(3))},
			namedHeap{w.name + ", in the middle page", heapOf(someTuples(1), w.p, someTuples(3))},
			namedHeap{w.name + ", in the last page", heapOf(someTuples(1), someTuples(2), w.p)},
		)
		most := pagesOf(mostPages, someTuples)
		most.Pages[mostPages-1] = w.p
		l = append(l, namedHeap{w.name + ", in the last page of MaxPages", most})
	}
	return l
}

// brokenHeaps are far past the limits.
func brokenHeaps() []namedHeap {
	l := []namedHeap{
		{"very many zero pages", impl.Heap{Pages: make([]impl.Page, 100000)}},
		{"very many pages that are none", impl.Heap{Pages: slices.Repeat([]impl.Page{tuplesPage(-1, 0)}, 100000)}},
	}
	for _, b := range append(wrongPages(), brokenPages()...) {
		l = append(l, namedHeap{b.name, heapOf(b.p)}, namedHeap{b.name + ", behind a right page", heapOf(someTuples(1), b.p)})
	}
	return l
}

// fewKeys are so few that many tuples have one; some differ in their kind alone.
func fewKeys() []impl.Item {
	return []impl.Item{intItem(0), floatItem(0), textItem(""), intItem(1), floatItem(1), textItem("1"), floatItem(plainNaN()), longText("k")}
}

func plainNaN() float64 {
	return impl.FloatOf(oneNaN)
}

// someTuple has one of few keys; transactions are of at most twelve.
func someTuple(seed uint64) impl.Tuple {
	x := someBits(4, seed)
	values := rightValues()
	return impl.Tuple{
		Xmin:  1 + int(x[0]>>20%12),
		Xmax:  max(0, int(x[1]>>20%18)-5),
		Key:   fewKeys()[x[2]>>20%uint64(len(fewKeys()))],
		Value: values[x[3]>>20%uint64(len(values))],
	}
}

// somePage has as many tuples as come, up to one that does not go in, and free slots between.
func somePage(seed uint64) impl.Page {
	x := someBits(mostSlots+2, seed)
	p := impl.Page{Lsn: int(x[mostSlots] >> 20 % 1000)}
	for slot := range int(x[mostSlots+1] >> 20 % (mostSlots + 1)) {
		if x[slot]>>20%4 == 0 {
			continue
		}
		after, ok := plainPut(p, slot, plainTuple(someTuple(x[slot])), p.Lsn+1)
		if !ok {
			return p
		}
		p = after
	}
	return p
}

// someHeap has a few pages, or, for some seeds, as many as there may be.
func someHeap(seed uint64) impl.Heap {
	x := someBits(mostPages+1, seed)
	n := int(x[mostPages] >> 20 % 5)
	if x[mostPages]>>40%16 == 0 {
		n = mostPages
	}
	var h impl.Heap
	for i := range n {
		h.Pages = append(h.Pages, somePage(x[i]))
	}
	return h
}

func wantRows(t *testing.T, name string, got []impl.Row, want []impl.Row) {
	t.Helper()
	if !sameRows(got, want) {
		t.Errorf("%s: %d rows %v, want %d %v", name, len(got), got, len(want), want)
	}
}

func wantAt(t *testing.T, name string, h impl.Heap, page int, slot int, want impl.Tuple) {
	t.Helper()
	if got, ok := impl.HeapAt(h, page, slot); !ok || !sameTuple(got, want) {
		t.Errorf("%s: HeapAt of %d, %d is %v %v, want %v", name, page, slot, got, ok, want)
	}
}

// wantNothingAt looks at the false, and that the zero value stands beside it.
func wantNothingAt(t *testing.T, name string, h impl.Heap, page int, slot int) {
	t.Helper()
	if got, ok := impl.HeapAt(h, page, slot); ok || !sameTuple(got, impl.Tuple{}) {
		t.Errorf("%s: HeapAt of %d, %d is %v %v, want none", name, page, slot, got, ok)
	}
}

func wantPlace(t *testing.T, name string, h impl.Heap, n int, page int, slot int) {
	t.Helper()
	if p, s := impl.HeapPlace(h, n); p != page || s != slot {
		t.Errorf("%s: HeapPlace of %d bytes is %d, %d, want %d, %d", name, n, p, s, page, slot)
	}
}

func wantHeap(t *testing.T, name string, got impl.Heap, ok bool, want impl.Heap) {
	t.Helper()
	if !ok || !sameHeap(got, want) {
		t.Errorf("%s: %v, %t, want %v", name, got, ok, want)
	}
}

// wantNoHeap looks at the false, and that the zero value stands beside it.
func wantNoHeap(t *testing.T, name string, got impl.Heap, ok bool) {
	t.Helper()
	if ok || len(got.Pages) != 0 {
		t.Errorf("%s: %v, %t, want the zero value and false", name, got, ok)
	}
}

// wantHeapOrNone holds an answer against what the document's words give.
func wantHeapOrNone(t *testing.T, name string, got impl.Heap, ok bool, want impl.Heap, well bool) {
	t.Helper()
	if well {
		wantHeap(t, name, got, ok, want)
		return
	}
	wantNoHeap(t, name, got, ok)
}
