package tests

import (
	"bytes"
	"testing"

	"loop.example/g00252/impl"
)

// pageModel is a page kept by what stands where; slots that are free are not in it.
type pageModel struct {
	lsn   int
	slots map[int][]byte
}

func (m *pageModel) count() int {
	n := 0
	for slot := range m.slots {
		n = max(n, slot+1)
	}
	return n
}

func (m *pageModel) used() int {
	used := 1 + m.count()
	for _, data := range m.slots {
		used += len(data)
	}
	return used
}

// fits says whether the data could stand in that slot beside all others.
func (m *pageModel) fits(slot int, n int) bool {
	return n >= 1 && n <= longestSlot && slot < mostSlots &&
		m.used()-m.count()-len(m.slots[slot])+max(m.count(), slot+1)+n <= bodySize
}

func (m *pageModel) place(n int) int {
	for slot := range mostSlots {
		if len(m.slots[slot]) == 0 && m.fits(slot, n) {
			return slot
		}
	}
	return -1
}

func (m *pageModel) check(t *testing.T, p impl.Page) {
	t.Helper()
	if p.Lsn != m.lsn || len(p.Slots) != m.count() || impl.PageUsed(p) != m.used() {
		t.Fatalf("Lsn %d (want %d), %d slots (%d), %d used (%d)", p.Lsn, m.lsn, len(p.Slots), m.count(), impl.PageUsed(p), m.used())
	}
	for slot, data := range p.Slots {
		if !bytes.Equal(data, m.slots[slot]) {
			t.Fatalf("slot %d has %x, want %x", slot, data, m.slots[slot])
		}
	}
	wantRead(t, "a page on its way", impl.PageBytes(p), p)
}

// pageStep does one thing, as the numbers say, to a page and to its model.
func pageStep(t *testing.T, p impl.Page, m *pageModel, kind uint64, x uint64) impl.Page {
	t.Helper()
	slot, n, lsn := int(x%mostSlots), 1+int(x>>8%95), 1+int(x>>16%lastLsn)
	if kind%8 < 3 {
		after, ok := impl.PageClear(p, slot, lsn)
		if ok != (slot < m.count()) {
			t.Fatalf("PageClear of slot %d of %d: %t", slot, m.count(), ok)
		}
		if !ok {
			return p
		}
		delete(m.slots, slot)
		m.lsn = lsn
		return after
	}
	if kind%8 > 4 {
		if place := impl.PagePlace(p, n); place != m.place(n) {
			t.Fatalf("PagePlace of %d bytes = %d, want %d", n, place, m.place(n))
		}
		slot = max(m.place(n), 0)
	}
	data := slotOf(n, int(x>>32))
	after, ok := impl.PagePut(p, slot, data, lsn)
	if ok != m.fits(slot, n) {
		t.Fatalf("PagePut of %d bytes into slot %d: %t", n, slot, ok)
	}
	if !ok {
		return p
	}
	m.slots[slot], m.lsn = data, lsn
	return after
}

func TestPagesDoAsTheWordsSayOverManyCalls(t *testing.T) {
	for seed := range 60 {
		p, m := impl.Page{}, &pageModel{slots: map[int][]byte{}}
		numbers := someBits(600, uint64(seed)+700)
		for i := 0; i+1 < len(numbers); i += 2 {
			p = pageStep(t, p, m, numbers[i]>>20, numbers[i+1]>>13)
			m.check(t, p)
		}
	}
}
