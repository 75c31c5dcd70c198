package tests

import (
	"bytes"
	"math"
	"slices"
	"testing"

	"loop.example/g00252/impl"
)

// guardedHeap is a heap with marked room behind its pages, behind the slots of each and behind their bytes.
type guardedHeap struct {
	h     impl.Heap
	all   []*guardedPage
	whole []impl.Page
}

func guardHeap(h impl.Heap) *guardedHeap {
	g := &guardedHeap{}
	for _, p := range append(slices.Clip(h.Pages), someTuples(701), noTuples(702), tuplesPage(-1, 0)) {
		of := guardPage(p)
		g.all = append(g.all, of)
		g.whole = append(g.whole, of.p)
	}
	g.h = impl.Heap{Pages: slices.Clone(g.whole)[:len(h.Pages)]}
	return g
}

// check fails when the heap, a page of it or the room behind one are not as they were.
func (g *guardedHeap) check(t *testing.T, name string) {
	t.Helper()
	for i, p := range g.h.Pages[:len(g.whole)] {
		if p.Lsn != g.whole[i].Lsn || len(p.Slots) != len(g.whole[i].Slots) {
			t.Errorf("%s: wrote into its pages or behind them", name)
		}
		g.all[i].check(t, name)
	}
}

func (g *guardedHeap) spoil() {
	for _, p := range g.all {
		p.spoil()
	}
	clear(g.h.Pages)
}

// heapAnswer is what a call of the chapter answers, whichever it is.
type heapAnswer struct {
	h    impl.Heap
	rows []impl.Row
	n    []int
}

func (a heapAnswer) clone() heapAnswer {
	c := heapAnswer{h: cloneHeap(a.h), n: a.n}
	for _, r := range a.rows {
		r.Tuple.Key.T, r.Tuple.Value.T = bytes.Clone(r.Tuple.Key.T), bytes.Clone(r.Tuple.Value.T)
		c.rows = append(c.rows, r)
	}
	return c
}

func (a heapAnswer) same(b heapAnswer) bool {
	return sameHeap(a.h, b.h) && sameRows(a.rows, b.rows) && slices.Equal(a.n, b.n)
}

// texts are all bytes of an answer, list by list.
func (a heapAnswer) texts() impl.Page {
	var all impl.Page
	for _, p := range a.h.Pages[:cap(a.h.Pages)] {
		all.Slots = append(all.Slots, p.Slots[:cap(p.Slots)]...)
	}
	for _, r := range a.rows[:cap(a.rows)] {
		all.Slots = append(all.Slots, r.Tuple.Key.T, r.Tuple.Value.T)
	}
	return all
}

// wantApart writes into all lists of an answer, and looks whether one wrote over another.
func (a heapAnswer) wantApart(t *testing.T, name string) {
	t.Helper()
	wantSlotsApart(t, name, a.texts())
	pages := a.h.Pages[:cap(a.h.Pages)]
	for i, p := range pages {
		for j := range p.Slots[:cap(p.Slots)] {
			p.Slots[:cap(p.Slots)][j] = []byte{byte(i), byte(j)}
		}
	}
	for i, p := range pages {
		for j, slot := range p.Slots[:cap(p.Slots)] {
			if slot[0] != byte(i) || slot[1] != byte(j) {
				t.Errorf("%s: the slots of two pages of the answer share memory", name)
				return
			}
		}
	}
	clear(pages)
	clear(a.rows[:cap(a.rows)])
}

// heapCall is one call that takes a heap, a tuple (or its key) and statuses.
type heapCall struct {
	name string
	do   func(h impl.Heap, a impl.Tuple, l []int) heapAnswer
}

func heapCallsAt(page int, slot int, lsn int) []heapCall {
	return []heapCall{
		{"HeapAt", func(h impl.Heap, a impl.Tuple, l []int) heapAnswer {
			b, ok := impl.HeapAt(h, page, slot)
			return heapAnswer{rows: []impl.Row{{Tuple: b}}, n: []int{oneIf(ok)}}
		}},
		{"HeapPut", func(h impl.Heap, a impl.Tuple, l []int) heapAnswer {
			after, ok := impl.HeapPut(h, page, slot, a, lsn)
			return heapAnswer{h: after, n: []int{oneIf(ok)}}
		}},
		{"HeapMark", func(h impl.Heap, a impl.Tuple, l []int) heapAnswer {
			after, ok := impl.HeapMark(h, page, slot, 33, lsn)
			return heapAnswer{h: after, n: []int{oneIf(ok)}}
		}},
		{"HeapClear", func(h impl.Heap, a impl.Tuple, l []int) heapAnswer {
			after, ok := impl.HeapClear(h, page, slot, lsn)
			return heapAnswer{h: after, n: []int{oneIf(ok)}}
		}},
	}
}

func heapCalls() []heapCall {
	calls := []heapCall{
		{"HeapOk", func(h impl.Heap, a impl.Tuple, l []int) heapAnswer {
			return heapAnswer{n: []int{oneIf(impl.HeapOk(h))}}
		}},
		{"HeapRows", func(h impl.Heap, a impl.Tuple, l []int) heapAnswer { return heapAnswer{rows: impl.HeapRows(h)} }},
		{"HeapVersions", func(h impl.Heap, a impl.Tuple, l []int) heapAnswer {
			return heapAnswer{rows: impl.HeapVersions(h, a.Key)}
		}},
		{"HeapDead", func(h impl.Heap, a impl.Tuple, l []int) heapAnswer { return heapAnswer{rows: impl.HeapDead(h, l, 9)} }},
		{"HeapPlace", func(h impl.Heap, a impl.Tuple, l []int) heapAnswer {
			page, slot := impl.HeapPlace(h, len(a.Value.T))
			return heapAnswer{n: []int{page, slot}}
		}},
	}
	for _, place := range [][2]int{{0, 0}, {0, 1}, {1, 0}, {1, 2}, {2, 0}, {3, 1}, {mostPages - 1, 1}, {mostPages, 0}, {-1, 0}, {0, -1}} {
		calls = append(calls, heapCallsAt(place[0], place[1], 9)...)
	}
	return append(calls, heapCallsAt(0, 1, 0)...)
}

// memoryHeaps are right heaps, some that look like none in particular, and a few of the wrong ones.
func memoryHeaps() []namedHeap {
	l := rightHeaps()
	for seed := range uint64(12) {
		l = append(l, namedHeap{"some heap", someHeap(seed + 30000)})
	}
	for i, w := range wrongHeaps() {
		if i < 80 || i%5 == 0 {
			l = append(l, w)
		}
	}
	return l
}

func TestHeapsLeaveTheirArgumentsAndShareNothing(t *testing.T) {
	key := fewKeys()[7]
	tuples := []impl.Tuple{{Xmin: 5, Key: key, Value: longText("v")}, {Xmin: 5, Key: textItem("1"), Value: textItem("")}, {}}
	for _, of := range memoryHeaps() {
		for _, c := range heapCalls() {
			for _, a := range tuples {
				name := c.name + ", " + of.name
				g, put, says := guardHeap(of.h), guardTuple(a), guardNumbers(someStatuses(20, 4))
				check := func(name string) {
					g.check(t, name)
					put.check(t, name)
					says.check(t, name)
				}
				got := c.do(g.h, put.t, says.l)
				want := got.clone()
				check(name)
				if plain := c.do(cloneHeap(of.h), a, someStatuses(20, 4)); !plain.same(want) {
					t.Errorf("%s: room behind a list shows", name)
				}
				got.wantApart(t, name)
				check(name + ", its answer spoilt")
				again := c.do(g.h, put.t, says.l)
				g.spoil()
				put.spoil()
				spoilNumbers(says.l)
				if !again.same(want) {
					t.Errorf("%s: shares memory with an argument or with another answer", name)
				}
			}
		}
	}
}

// Pages and slots of one heap may stand on the same bytes, and what is put too.
func TestAnswersOfHeapsOnOneListAreApart(t *testing.T) {
	one := slotOf(40, 801)
	a := impl.Tuple{Xmin: 3, Key: impl.Item{Kind: impl.ItText, T: one[:9]}, Value: impl.Item{Kind: impl.ItText, T: one[4:20]}}
	want := bytes.Clone(one)
	for _, c := range heapCalls() {
		h, l := sharedHeap(), sameOf(20, gone)
		got := c.do(h, a, l)
		if plain := c.do(cloneHeap(h), a, l); !plain.same(got) {
			t.Errorf("%s on one list: %v, want %v", c.name, got, plain)
		}
		got.wantApart(t, c.name+" on one list")
		if !sameHeap(h, sharedHeap()) || !bytes.Equal(one, want) {
			t.Fatalf("%s: its answer shares memory with its argument", c.name)
		}
	}
}

func TestAHeapIsLeftByTheCallsBehindIt(t *testing.T) {
	first, _ := impl.HeapPut(pagesOf(2, someTuples), 0, 1, oneTuple(), 9)
	want := cloneHeap(first)
	left, _ := impl.HeapPut(first, 2, 0, tupleOfSize(20, 1), 10)
	right, _ := impl.HeapPut(first, 2, 0, tupleOfSize(20, 2), 11)
	marked, _ := impl.HeapMark(first, 0, 1, 33, 12)
	cleared, _ := impl.HeapClear(first, 0, 1, 13)
	wantHeap(t, "four calls behind one heap", first, true, want)
	wantAt(t, "left", left, 2, 0, tupleOfSize(20, 1))
	wantAt(t, "right", right, 2, 0, tupleOfSize(20, 2))
	wantAt(t, "left", left, 0, 1, oneTuple())
	wantNothingAt(t, "cleared", cleared, 0, 1)
	if a, _ := impl.HeapAt(marked, 0, 1); a.Xmax != 33 || len(marked.Pages) != 2 {
		t.Errorf("marked: %v", marked)
	}
}

// One heap that is changed between two calls: nothing is kept of what it was.
func TestHeapsKeepNothing(t *testing.T) {
	h := heapOf(pageWith(1, oneTuple()))
	for range 3 {
		wantAt(t, "as it was", h, 0, 0, oneTuple())
		wantRows(t, "as it was", impl.HeapVersions(h, intItem(5)), []impl.Row{{Tuple: oneTuple()}})
		h.Pages[0] = tuplesPage(1, 20)
		wantAt(t, "another", h, 0, 0, tupleOfSize(20, 20))
		wantRows(t, "another", impl.HeapVersions(h, intItem(5)), nil)
		h.Pages[0].Lsn = -1
		wantNothingAt(t, "none", h, 0, 0)
		h.Pages[0] = pageWith(1, oneTuple())
	}
}

func TestHeapsNeverPanic(t *testing.T) {
	numbers := []int{math.MinInt, math.MinInt + 1, -1 << 32, -1, 0, 1, 15, 16, 17, 92, 93, lastXid, lastXid + 1, lastLsn, lastLsn + 1, 1 << 32, math.MaxInt - 1, math.MaxInt}
	heaps := append(append(rightHeaps(), brokenHeaps()...), wrongHeaps()...)
	tuples := []impl.Tuple{oneTuple(), {}, {Xmin: math.MinInt, Xmax: math.MaxInt, Key: impl.Item{Kind: 9}}, {Xmin: 1, Key: longText("k"), Value: impl.Item{Kind: impl.ItText, T: make([]byte, 1000)}}}
	for _, of := range heaps {
		h := of.h
		quiet(t, "HeapOk", func() { impl.HeapOk(h) })
		quiet(t, "HeapRows", func() { impl.HeapRows(h) })
		for i, n := range numbers {
			m, a := numbers[len(numbers)-1-i], tuples[i%len(tuples)]
			quiet(t, "HeapVersions", func() { impl.HeapVersions(h, impl.Item{Kind: n, N: m}) })
			quiet(t, "HeapPlace", func() { impl.HeapPlace(h, n) })
			quiet(t, "HeapDead", func() { impl.HeapDead(h, []int{n, m}, n) })
			for _, page := range []int{n, 0} {
				for _, slot := range []int{m, n, 0, 1} {
					quiet(t, "HeapAt", func() { impl.HeapAt(h, page, slot) })
					quiet(t, "HeapPut", func() { impl.HeapPut(h, page, slot, a, m) })
					quiet(t, "HeapPut", func() { impl.HeapPut(h, page, slot, a, 1) })
					quiet(t, "HeapMark", func() { impl.HeapMark(h, page, slot, n, m) })
					quiet(t, "HeapMark", func() { impl.HeapMark(h, page, slot, 1, 1) })
					quiet(t, "HeapClear", func() { impl.HeapClear(h, page, slot, m) })
				}
			}
		}
	}
}
