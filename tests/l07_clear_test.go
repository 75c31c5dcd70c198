package tests

import (
	"fmt"
	"testing"

	"loop.example/g00252/impl"
)

func TestPageClearOfSlots(t *testing.T) {
	a, b, c := []byte("aa"), []byte("bbb"), []byte("c")
	for _, x := range []struct {
		name  string
		slots [][]byte
		slot  int
		want  [][]byte
	}{
		{"the first", [][]byte{a, b, c}, 0, [][]byte{nil, b, c}},
		{"one in the middle", [][]byte{a, b, c}, 1, [][]byte{a, nil, c}},
		{"the last", [][]byte{a, b, c}, 2, [][]byte{a, b}},
		{"the last, with a free one ahead of it", [][]byte{a, nil, c}, 2, [][]byte{a}},
		{"the last, with free ones ahead of it", [][]byte{a, nil, b, nil, {}, nil, c}, 6, [][]byte{a, nil, b}},
		{"the last, with free ones alone ahead of it", [][]byte{nil, {}, nil, c}, 3, nil},
		{"the only one", [][]byte{a}, 0, nil},
		{"one that is free already", [][]byte{a, nil, c}, 1, [][]byte{a, nil, c}},
		{"the first, which is free already", [][]byte{nil, b}, 0, [][]byte{nil, b}},
		{"one beside a free one", [][]byte{a, nil, b, c}, 2, [][]byte{a, nil, nil, c}},
	} {
		for _, lsn := range []int{1, 4, 5, 6, lastLsn} {
			got, ok := impl.PageClear(impl.Page{Lsn: 5, Slots: x.slots}, x.slot, lsn)
			wantPage(t, x.name, got, ok, impl.Page{Lsn: lsn, Slots: x.want})
		}
	}
}

func TestPageClearOnBothSidesOfEachLimit(t *testing.T) {
	p, full := sizedPage(1, 3, 0, 5), sizedPage(1, sizesOf(mostSlots, 2)...)
	for _, c := range []struct {
		name string
		p    impl.Page
		slot int
		lsn  int
		well bool
	}{
		{"slot -1", p, -1, 2, false},
		{"slot 0", p, 0, 2, true},
		{"the last slot", p, 2, 2, true},
		{"the slot behind the last one", p, 3, 2, false},
		{"slot MaxSlots - 1 of MaxSlots", full, 15, 2, true},
		{"slot MaxSlots of MaxSlots", full, 16, 2, false},
		{"slot 0 of the zero page", impl.Page{}, 0, 2, false},
		{"slot -1 of the zero page", impl.Page{}, -1, 2, false},
		{"slot 0 of a page without slots", sizedPage(8), 0, 9, false},
		{"lsn -1", p, 0, -1, false},
		{"lsn 0", p, 0, 0, false},
		{"lsn 1", p, 0, 1, true},
		{"lsn MaxLsn", p, 0, lastLsn, true},
		{"lsn one more than MaxLsn", p, 0, lastLsn + 1, false},
	} {
		got, ok := impl.PageClear(c.p, c.slot, c.lsn)
		if !c.well {
			wantNoPage(t, c.name, got, ok)
			continue
		}
		want, _ := plainClear(c.p, c.slot, c.lsn)
		wantPage(t, c.name, got, ok, want)
	}
}

func TestPageClearRefusesWhatIsNotAPage(t *testing.T) {
	for _, w := range append(wrongPages(), brokenPages()...) {
		for _, slot := range []int{0, len(w.p.Slots) - 1} {
			got, ok := impl.PageClear(w.p, slot, 2)
			wantNoPage(t, w.name, got, ok)
		}
	}
}

// What is cleared could be what kept it from being a page; it is refused all the same.
func TestPageClearMendsNothing(t *testing.T) {
	for _, c := range []struct {
		name string
		p    impl.Page
		slot int
	}{
		{"a slot that is too long", sizedPage(1, 4, 93), 1},
		{"a slot that is too much", sizedPage(1, 92, 92, 53), 2},
		{"a last slot that is free", sizedPage(1, 4, 0), 1},
		{"a slot that is one too many", sizedPage(1, sizesOf(17, 1)...), 16},
		{"a new Lsn for one past its limits", sizedPage(lastLsn+1, 4, 4), 0},
	} {
		got, ok := impl.PageClear(c.p, c.slot, 2)
		wantNoPage(t, c.name, got, ok)
	}
}

func TestPageClearByItsNumbers(t *testing.T) {
	p := sizedPage(1, 3, 0, 5)
	for _, slot := range past([2]int{0, 2}) {
		got, ok := impl.PageClear(p, slot, 2)
		wantNoPage(t, fmt.Sprint("slot ", slot), got, ok)
	}
	for _, lsn := range wrongLsns() {
		got, ok := impl.PageClear(p, 1, lsn)
		wantNoPage(t, fmt.Sprint("lsn ", lsn), got, ok)
	}
}

func TestPageClearOfAllPages(t *testing.T) {
	for _, r := range rightPages() {
		for slot := -1; slot <= mostSlots; slot++ {
			name := fmt.Sprintf("%s: PageClear of slot %d", r.name, slot)
			got, ok := impl.PageClear(r.p, slot, 77)
			want, well := plainClear(r.p, slot, 77)
			if !well {
				wantNoPage(t, name, got, ok)
				continue
			}
			wantPage(t, name, got, ok, want)
			wantOthersStay(t, name, r.p, got, slot)
			if len(slotAt(got, slot)) != 0 || impl.PageUsed(got) < 1 {
				t.Errorf("%s: it is there, or what is left is no page", name)
			}
		}
	}
}

func TestAPageIsEmptiedFromBothEnds(t *testing.T) {
	p := sizedPage(1, crammed()...)
	for slot := range mostSlots - 1 {
		after, ok := impl.PageClear(p, slot, 2+slot)
		if p = after; !ok || len(p.Slots) != mostSlots {
			t.Fatalf("slot %d from the front: %v, %t", slot, p, ok)
		}
	}
	after, ok := impl.PageClear(p, mostSlots-1, 90)
	wantPage(t, "the last one of all", after, ok, impl.Page{Lsn: 90})
	p = sizedPage(1, crammed()...)
	for slot := mostSlots - 1; slot >= 0; slot-- {
		after, ok := impl.PageClear(p, slot, 2+slot)
		if p = after; !ok || len(p.Slots) != slot {
			t.Fatalf("slot %d from the end: %v, %t", slot, p, ok)
		}
	}
}
