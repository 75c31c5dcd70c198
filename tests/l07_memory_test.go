package tests

import (
	"bytes"
	"math"
	"testing"

	"loop.example/g00252/impl"
)

// guardedPage is a page with marked room behind its slots and behind the bytes of each.
type guardedPage struct {
	p     impl.Page
	want  impl.Page
	bytes []guarded
}

func guardPage(p impl.Page) *guardedPage {
	g := &guardedPage{}
	all := clonePage(p)
	for i := range 3 {
		all.Slots = append(all.Slots, slotOf(20, 400+i))
	}
	for i, slot := range all.Slots {
		of := guard(slot)
		g.bytes = append(g.bytes, of)
		all.Slots[i] = of.b
	}
	g.want, g.p = clonePage(all), all
	g.p.Slots = all.Slots[:len(p.Slots)]
	return g
}

// check fails when the page, its slots or the room behind one are not as they were.
func (g *guardedPage) check(t *testing.T, name string) {
	t.Helper()
	whole := impl.Page{Lsn: g.p.Lsn, Slots: g.p.Slots[:len(g.want.Slots)]}
	if !samePage(whole, g.want) {
		t.Errorf("%s: wrote into its page or behind the slots", name)
	}
	for _, b := range g.bytes {
		b.check(t, name)
	}
}

func (g *guardedPage) spoil() {
	for _, b := range g.bytes {
		spoil(b.b)
	}
	clear(g.p.Slots)
}

// wantSlotsApart writes other bytes into each slot and the room behind it, and looks whether one wrote over another.
func wantSlotsApart(t *testing.T, name string, p impl.Page) {
	t.Helper()
	slots := p.Slots[:cap(p.Slots)]
	for i, slot := range slots {
		room := slot[:cap(slot)]
		copy(room, someBytes(len(room), uint64(i)*17+5))
	}
	for i, slot := range slots {
		room := slot[:cap(slot)]
		if !bytes.Equal(room, someBytes(len(room), uint64(i)*17+5)) {
			t.Errorf("%s: two slots of the answer share memory", name)
			return
		}
	}
}

// pageCall is one call that takes a page and data; bytes that it answers are told as the one slot of a page.
type pageCall struct {
	name string
	do   func(p impl.Page, data []byte) impl.Page
}

func putCall(name string, slot int, lsn int) pageCall {
	return pageCall{name, func(p impl.Page, data []byte) impl.Page {
		after, _ := impl.PagePut(p, slot, data, lsn)
		return after
	}}
}

func clearCall(name string, slot int, lsn int) pageCall {
	return pageCall{name, func(p impl.Page, data []byte) impl.Page {
		after, _ := impl.PageClear(p, slot, lsn)
		return after
	}}
}

func pageCalls() []pageCall {
	return []pageCall{
		{"PageUsed", func(p impl.Page, data []byte) impl.Page { return impl.Page{Lsn: impl.PageUsed(p)} }},
		{"PagePlace", func(p impl.Page, data []byte) impl.Page { return impl.Page{Lsn: impl.PagePlace(p, len(data))} }},
		{"PageBytes", func(p impl.Page, data []byte) impl.Page { return impl.Page{Slots: [][]byte{impl.PageBytes(p)}} }},
		putCall("PagePut first", 0, 9),
		putCall("PagePut second", 1, 9),
		putCall("PagePut third", 2, 9),
		putCall("PagePut behind", 5, 9),
		putCall("PagePut last", mostSlots-1, 9),
		putCall("PagePut nowhere", mostSlots, 9),
		putCall("PagePut without Lsn", 0, 0),
		clearCall("PageClear first", 0, 9),
		clearCall("PageClear second", 1, 9),
		clearCall("PageClear third", 2, 9),
		clearCall("PageClear last", mostSlots-1, 9),
		clearCall("PageClear nowhere", -1, 9),
		clearCall("PageClear without Lsn", 0, lastLsn+1),
	}
}

func TestPagesLeaveTheirArgumentsAndShareNothing(t *testing.T) {
	for _, of := range append(rightPages(), wrongPages()...) {
		for _, c := range pageCalls() {
			for _, n := range []int{0, 1, 14, 40, 92, 93} {
				name := c.name + ", " + of.name
				g, data := guardPage(of.p), guard(slotOf(n, 500))
				got := c.do(g.p, data.b)
				want := clonePage(got)
				g.check(t, name)
				data.check(t, name)
				wantSlotsApart(t, name, got)
				clear(got.Slots[:cap(got.Slots)])
				g.check(t, name+", its answer spoilt")
				data.check(t, name+", its answer spoilt")
				again := c.do(g.p, data.b)
				g.spoil()
				spoil(data.b)
				wantPage(t, name+", its arguments spoilt", again, true, want)
			}
		}
	}
}

// Slots, and what is put, may be the same bytes, or lie across each other.
func TestAnswersOfPagesOnOneListAreApart(t *testing.T) {
	one := slotOf(60, 501)
	want := bytes.Clone(one)
	for _, p := range []impl.Page{
		{Lsn: 3, Slots: [][]byte{one[:30], one[:30], one[:30]}},
		{Lsn: 3, Slots: [][]byte{one[:30], one[10:40], nil, one[20:45]}},
		{Lsn: 3, Slots: [][]byte{one[:9], one[:0], one[9:18]}},
	} {
		for _, c := range pageCalls() {
			plain := clonePage(p)
			got, same := c.do(p, one[5:35]), c.do(plain, bytes.Clone(one[5:35]))
			wantPage(t, c.name+" on one list", got, true, same)
			wantSlotsApart(t, c.name+" on one list", got)
			if !bytes.Equal(one, want) {
				t.Fatalf("%s: its answer shares memory with its argument", c.name)
			}
		}
	}
}

func TestPageReadIsNewMemory(t *testing.T) {
	for _, of := range append(rightPages(), wrongPages()...) {
		g := guard(plainPage(of.p))
		got, ok := impl.PageRead(g.b)
		want, well := plainPageRead(bytes.Clone(g.b))
		g.check(t, "PageRead, "+of.name)
		wantSlotsApart(t, "PageRead, "+of.name, got)
		clear(got.Slots[:cap(got.Slots)])
		g.check(t, "PageRead, its answer spoilt, "+of.name)
		again, okAgain := impl.PageRead(g.b)
		spoil(g.b)
		if ok != well || okAgain != well || !samePage(again, want) {
			t.Errorf("PageRead of %s shares memory with its argument or with another answer", of.name)
		}
	}
}

func TestPageReadLeavesWhatItRefuses(t *testing.T) {
	whole := plainPage(sizedPage(5, 20, 0, 92, 40))
	for cut := range len(whole) {
		g := guard(whole[:cut])
		impl.PageRead(g.b)
		g.check(t, "PageRead of a page that is cut")
	}
	for at := range len(whole) {
		b := bytes.Clone(whole)
		b[at] ^= 0xFF
		g := guard(b)
		impl.PageRead(g.b)
		g.check(t, "PageRead of a byte changed")
	}
}

func TestAPageIsLeftByTheCallsBehindIt(t *testing.T) {
	first, _ := impl.PagePut(sizedPage(1, 5, 0, 6), 1, []byte("one"), 2)
	want := clonePage(first)
	left, _ := impl.PagePut(first, 3, []byte("left"), 3)
	right, _ := impl.PagePut(first, 3, []byte("right"), 4)
	impl.PageClear(first, 2, 5)
	wantPage(t, "two puts behind one page", first, true, want)
	if string(left.Slots[3]) != "left" || string(right.Slots[3]) != "right" || left.Lsn != 3 || right.Lsn != 4 {
		t.Errorf("two puts behind one page give %v and %v", left, right)
	}
}

func TestPagesNeverPanic(t *testing.T) {
	numbers := []int{math.MinInt, math.MinInt + 1, -1 << 32, -17, -1, 0, 1, 15, 16, 17, 92, 93, 240, lastLsn, lastLsn + 1, 1 << 32, math.MaxInt - 1, math.MaxInt}
	pages := append(append(rightPages(), wrongPages()...), brokenPages()...)
	for _, of := range pages {
		for i, n := range numbers {
			m := numbers[len(numbers)-1-i]
			p := impl.Page{Lsn: m, Slots: of.p.Slots}
			for _, p := range []impl.Page{of.p, p} {
				quiet(t, "PageUsed", func() { impl.PageUsed(p) })
				quiet(t, "PagePlace", func() { impl.PagePlace(p, n) })
				quiet(t, "PagePut", func() { impl.PagePut(p, n, slotOf(i*9, 3), 1) })
				quiet(t, "PagePut", func() { impl.PagePut(p, i, slotOf(i*9, 3), n) })
				quiet(t, "PagePut of none", func() { impl.PagePut(p, n, nil, m) })
				quiet(t, "PageClear", func() { impl.PageClear(p, n, 1) })
				quiet(t, "PageClear", func() { impl.PageClear(p, i, n) })
				quiet(t, "PageBytes", func() { impl.PageBytes(p) })
			}
		}
	}
}

// Bytes lack at each place at which a reader can come to: in a sector, in the lengths, in a slot.
func TestPageReadNeverPanics(t *testing.T) {
	for n := range 600 {
		for _, c := range []byte{0, 1, 16, 17, 92, 93, 239, 240, 255} {
			quiet(t, "PageRead", func() { impl.PageRead(bytes.Repeat([]byte{c}, n)) })
		}
		quiet(t, "PageRead", func() { impl.PageRead(someBytes(n, uint64(n))) })
	}
	for count := range 256 {
		for size := range 256 {
			body := append([]byte{byte(count)}, bytes.Repeat([]byte{byte(size)}, 239)...)
			quiet(t, "PageRead", func() { impl.PageRead(plainSectors(body, 1)) })
		}
	}
	quiet(t, "PageRead", func() { impl.PageRead(make([]byte, 1000000)) })
}
