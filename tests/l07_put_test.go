package tests

import (
	"bytes"
	"fmt"
	"testing"

	"loop.example/g00252/impl"
)

func TestPagePutIntoSlots(t *testing.T) {
	a, b, c, d := []byte("aa"), []byte("bbb"), []byte("c"), []byte("dddd")
	for _, x := range []struct {
		name string
		p    impl.Page
		slot int
		want [][]byte
	}{
		{"the zero page", impl.Page{}, 0, [][]byte{d}},
		{"the zero page, with slots between", impl.Page{}, 3, [][]byte{nil, nil, nil, d}},
		{"a free slot first", impl.Page{Lsn: 5, Slots: [][]byte{nil, b}}, 0, [][]byte{d, b}},
		{"a free slot between", impl.Page{Lsn: 5, Slots: [][]byte{a, nil, c}}, 1, [][]byte{a, d, c}},
		{"one free slot of two", impl.Page{Lsn: 5, Slots: [][]byte{a, nil, nil, c}}, 2, [][]byte{a, nil, d, c}},
		{"over the first", impl.Page{Lsn: 5, Slots: [][]byte{a, b, c}}, 0, [][]byte{d, b, c}},
		{"over one between", impl.Page{Lsn: 5, Slots: [][]byte{a, b, c}}, 1, [][]byte{a, d, c}},
		{"over the last", impl.Page{Lsn: 5, Slots: [][]byte{a, nil, c}}, 2, [][]byte{a, nil, d}},
		{"over the only one", impl.Page{Lsn: 5, Slots: [][]byte{a}}, 0, [][]byte{d}},
		{"behind the last one", impl.Page{Lsn: 5, Slots: [][]byte{a, b}}, 2, [][]byte{a, b, d}},
		{"one slot between", impl.Page{Lsn: 5, Slots: [][]byte{a, b}}, 3, [][]byte{a, b, nil, d}},
		{"three slots between", impl.Page{Lsn: 5, Slots: [][]byte{a, nil, c}}, 6, [][]byte{a, nil, c, nil, nil, nil, d}},
	} {
		for _, lsn := range []int{1, 4, 5, 6, lastLsn} {
			got, ok := impl.PagePut(x.p, x.slot, d, lsn)
			wantPage(t, x.name, got, ok, impl.Page{Lsn: lsn, Slots: x.want})
		}
	}
}

func TestPagePutOverLongerAndShorter(t *testing.T) {
	p := sizedPage(1, 10, 20, 30)
	for n := 1; n <= longestSlot; n++ {
		for slot := range 3 {
			data := slotOf(n, 80+slot)
			got, ok := impl.PagePut(p, slot, data, 2)
			if !ok || !bytes.Equal(got.Slots[slot], data) || impl.PageUsed(got) != 64-10*(slot+1)+n {
				t.Errorf("%d bytes over slot %d: %v, %t", n, slot, got, ok)
			}
		}
	}
}

func TestPagePutOnBothSidesOfEachLimit(t *testing.T) {
	p := sizedPage(1, 3, 0, 5)
	for _, c := range []struct {
		name string
		p    impl.Page
		slot int
		data []byte
		lsn  int
		well bool
	}{
		{"slot -1", p, -1, slotOf(4, 1), 2, false},
		{"slot 0", p, 0, slotOf(4, 1), 2, true},
		{"slot MaxSlots - 1", p, 15, slotOf(4, 1), 2, true},
		{"slot MaxSlots", p, 16, slotOf(4, 1), 2, false},
		{"no data", p, 1, nil, 2, false},
		{"data of an empty list", p, 1, []byte{}, 2, false},
		{"data of an empty list with room", p, 1, make([]byte, 0, 9), 2, false},
		{"no data over what is there", p, 0, nil, 2, false},
		{"one byte", p, 1, []byte{0}, 2, true},
		{"lsn -1", p, 1, slotOf(4, 1), -1, false},
		{"lsn 0", p, 1, slotOf(4, 1), 0, false},
		{"lsn 1", p, 1, slotOf(4, 1), 1, true},
		{"lsn MaxLsn", p, 1, slotOf(4, 1), lastLsn, true},
		{"lsn one more than MaxLsn", p, 1, slotOf(4, 1), lastLsn + 1, false},
		{"data of MaxTuple", p, 1, slotOf(92, 1), 2, true},
		{"data of one more", p, 1, slotOf(93, 1), 2, false},
		{"data of MaxTuple behind the last one", p, 3, slotOf(92, 1), 2, true},
		{"data of one more behind the last one", p, 3, slotOf(93, 1), 2, false},
		{"data of 256 and 1 bytes", impl.Page{}, 0, slotOf(257, 1), 2, false},
		{"PageBody met in a free slot", sizedPage(1, 92, 0, 92), 1, slotOf(52, 1), 2, true},
		{"PageBody passed by one in a free slot", sizedPage(1, 92, 0, 92), 1, slotOf(53, 1), 2, false},
		{"PageBody met behind the last one", sizedPage(1, 92, 92), 2, slotOf(52, 1), 2, true},
		{"PageBody passed by one behind the last one", sizedPage(1, 92, 92), 2, slotOf(53, 1), 2, false},
		{"PageBody met with slots between", sizedPage(1, 92, 92), 4, slotOf(50, 1), 2, true},
		{"PageBody passed by one with slots between", sizedPage(1, 92, 92), 4, slotOf(51, 1), 2, false},
		{"PageBody met over what is there", sizedPage(1, 92, 1, 92), 1, slotOf(52, 1), 2, true},
		{"PageBody passed by one over what is there", sizedPage(1, 92, 1, 92), 1, slotOf(53, 1), 2, false},
		{"a full page, as many bytes over others", sizedPage(1, 92, 92, 52), 2, slotOf(52, 9), 2, true},
		{"a full page, one byte more over others", sizedPage(1, 92, 92, 52), 2, slotOf(53, 9), 2, false},
		{"a full page, a byte behind the last one", sizedPage(1, 92, 92, 52), 3, slotOf(1, 9), 2, false},
	} {
		got, ok := impl.PagePut(c.p, c.slot, c.data, c.lsn)
		if !c.well {
			wantNoPage(t, c.name, got, ok)
			continue
		}
		want, _ := plainPut(c.p, c.slot, c.data, c.lsn)
		wantPage(t, c.name, got, ok, want)
	}
}

func TestPagePutRefusesWhatIsNotAPage(t *testing.T) {
	for _, w := range append(wrongPages(), brokenPages()...) {
		for _, slot := range []int{0, 1, 2, 15} {
			got, ok := impl.PagePut(w.p, slot, []byte("x"), 2)
			wantNoPage(t, w.name, got, ok)
		}
	}
}

// What is put could be what makes a page of it; it is refused all the same.
func TestPagePutMendsNothing(t *testing.T) {
	for _, c := range []struct {
		name string
		p    impl.Page
		slot int
	}{
		{"over a slot that is too long", sizedPage(1, 93), 0},
		{"over a slot that is too much", sizedPage(1, 92, 92, 53), 2},
		{"into a last slot that is free", sizedPage(1, 4, 0), 1},
		{"behind a last slot that is free", sizedPage(1, 4, 0), 2},
		{"a new Lsn for one past its limits", sizedPage(lastLsn+1, 4), 0},
	} {
		got, ok := impl.PagePut(c.p, c.slot, []byte("x"), 2)
		wantNoPage(t, c.name, got, ok)
	}
}

func TestPagePutByItsNumbers(t *testing.T) {
	p := sizedPage(1, 3, 0, 5)
	for _, slot := range past([2]int{0, mostSlots - 1}) {
		got, ok := impl.PagePut(p, slot, []byte("x"), 2)
		wantNoPage(t, fmt.Sprint("slot ", slot), got, ok)
	}
	for _, lsn := range wrongLsns() {
		got, ok := impl.PagePut(p, 1, []byte("x"), lsn)
		wantNoPage(t, fmt.Sprint("lsn ", lsn), got, ok)
	}
	for _, n := range []int{93, 100, 240, 255, 256, 257, 348, 70000} {
		got, ok := impl.PagePut(p, 1, make([]byte, n), 2)
		wantNoPage(t, fmt.Sprint("data of ", n), got, ok)
	}
}

func TestPagePutOfAllPages(t *testing.T) {
	for _, r := range rightPages() {
		for slot := -1; slot <= mostSlots; slot++ {
			for _, n := range []int{0, 1, 2, 13, 14, 15, 27, 28, 49, 50, 51, 52, 53, 91, 92, 93} {
				data := slotOf(n, 90)
				name := fmt.Sprintf("%s: PagePut of %d bytes into slot %d", r.name, n, slot)
				got, ok := impl.PagePut(r.p, slot, data, 77)
				want, well := plainPut(r.p, slot, data, 77)
				if !well {
					wantNoPage(t, name, got, ok)
					continue
				}
				wantPage(t, name, got, ok, want)
				wantOthersStay(t, name, r.p, got, slot)
			}
		}
	}
}

// wantOthersStay looks at all slots but one, and that those which there were not are free.
func wantOthersStay(t *testing.T, name string, before impl.Page, after impl.Page, but int) {
	t.Helper()
	for i := range max(len(before.Slots), len(after.Slots)) {
		if i != but && !bytes.Equal(slotAt(before, i), slotAt(after, i)) {
			t.Errorf("%s: slot %d has changed", name, i)
		}
	}
}

// slotAt is a page's slot, free where it has none.
func slotAt(p impl.Page, i int) []byte {
	if i < len(p.Slots) {
		return p.Slots[i]
	}
	return nil
}
