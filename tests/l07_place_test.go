package tests

import (
	"math"
	"testing"

	"loop.example/g00252/impl"
)

func TestPagePlaceBySizes(t *testing.T) {
	for _, c := range []struct {
		name string
		p    impl.Page
		n    int
		want int
	}{
		{"the zero page", impl.Page{}, 1, 0},
		{"the zero page", impl.Page{}, 92, 0},
		{"the first of several free slots", sizedPage(1, 5, 0, 6, 0, 0, 7), 8, 1},
		{"the first of all", sizedPage(1, 0, 0, 6), 8, 0},
		{"behind the last slot", sizedPage(1, 5, 6, 7), 8, 3},
		{"behind the last one, the last of MaxSlots", sizedPage(1, sizesOf(15, 1)...), 8, 15},
		{"MaxSlots, none of them free", sizedPage(1, sizesOf(16, 1)...), 1, -1},
		{"MaxSlots, none of them free", sizedPage(1, sizesOf(16, 1)...), 92, -1},
		{"MaxSlots, the first free", sizedPage(1, append([]int{0}, sizesOf(15, 1)...)...), 8, 0},
		{"MaxSlots, one free near the end", sizedPage(1, append(sizesOf(14, 1), 0, 1)...), 8, 14},
		{"PageBody met behind the last one", sizedPage(1, 92, 92), 52, 2},
		{"PageBody passed by one behind the last one", sizedPage(1, 92, 92), 53, -1},
		{"one byte behind the last one", sizedPage(1, 92, 92, 50), 1, 3},
		{"no byte behind the last one", sizedPage(1, 92, 92, 51), 1, -1},
		{"a page that is full", sizedPage(1, 92, 92, 52), 1, -1},
		{"PageBody met in a free slot", sizedPage(1, 92, 0, 92), 52, 1},
		{"PageBody passed by one in a free slot", sizedPage(1, 92, 0, 92), 53, -1},
		{"one byte in a free slot", sizedPage(1, 0, 92, 92, 50), 1, 0},
		{"no byte in a free slot", sizedPage(1, 0, 92, 92, 51), 1, -1},
		{"MaxSlots, PageBody met in a free one", sizedPage(1, append([]int{0}, crammed()[1:]...)...), 14, 0},
		{"MaxSlots, PageBody passed by one in a free one", sizedPage(1, append([]int{0}, crammed()[1:]...)...), 15, -1},
	} {
		if got := impl.PagePlace(c.p, c.n); got != c.want {
			t.Errorf("%s: PagePlace(%v, %d) = %d, want %d", c.name, c.p, c.n, got, c.want)
		}
	}
}

// A free slot has its length byte already, so that one byte more goes in there than behind the last slot.
func TestPagePlaceInAFreeSlotNeedsNoLengthByte(t *testing.T) {
	free, none := sizedPage(1, 92, 0, 92), sizedPage(1, 92, 1, 91)
	if impl.PageUsed(free) != 188 || impl.PageUsed(none) != 188 {
		t.Fatalf("%d and %d bytes used", impl.PageUsed(free), impl.PageUsed(none))
	}
	if impl.PagePlace(free, 52) != 1 || impl.PagePlace(none, 52) != -1 {
		t.Errorf("52 bytes: %d with a free slot, %d without", impl.PagePlace(free, 52), impl.PagePlace(none, 52))
	}
	if impl.PagePlace(free, 51) != 1 || impl.PagePlace(none, 51) != 3 {
		t.Errorf("51 bytes: %d with a free slot, %d without", impl.PagePlace(free, 51), impl.PagePlace(none, 51))
	}
}

func TestPagePlaceByCounts(t *testing.T) {
	for _, p := range []impl.Page{{}, sizedPage(1, 4, 0, 4), sizedPage(1, 4, 4)} {
		want := plainPlace(p, 1)
		for _, n := range []int{1, 2, 91, 92} {
			if got := impl.PagePlace(p, n); got != want {
				t.Errorf("PagePlace(%v, %d) = %d, want %d", p, n, got, want)
			}
		}
		for _, n := range past([2]int{1, longestSlot}) {
			if got := impl.PagePlace(p, n); got != -1 {
				t.Errorf("PagePlace(%v, %d) = %d, want -1", p, n, got)
			}
		}
	}
}

func TestPagePlaceOfWhatIsNotAPage(t *testing.T) {
	for _, w := range append(wrongPages(), brokenPages()...) {
		for _, n := range []int{math.MinInt, -1, 0, 1, 5, 92, 93, math.MaxInt} {
			if got := impl.PagePlace(w.p, n); got != -1 {
				t.Errorf("%s: PagePlace(.., %d) = %d, want -1", w.name, n, got)
			}
		}
	}
}

// nowhere says whether no slot that is free or behind the last one takes n bytes.
func nowhere(p impl.Page, n int) bool {
	for slot := range mostSlots {
		if slot < len(p.Slots) && len(p.Slots[slot]) > 0 {
			continue
		}
		if _, ok := impl.PagePut(p, slot, slotOf(n, 70), 9); ok {
			return false
		}
	}
	return true
}

func TestWhereAPlaceIsToldTheBytesFitElseNowhere(t *testing.T) {
	for _, r := range rightPages() {
		for n := range longestSlot + 3 {
			place := impl.PagePlace(r.p, n)
			if want := plainPlace(r.p, n); place != want {
				t.Errorf("%s: PagePlace(.., %d) = %d, want %d", r.name, n, place, want)
			}
			if place < 0 {
				if !nowhere(r.p, n) {
					t.Errorf("%s: no place is told for %d bytes, but there is one", r.name, n)
				}
				continue
			}
			if place < len(r.p.Slots) && len(r.p.Slots[place]) > 0 {
				t.Errorf("%s: the place %d for %d bytes is not free", r.name, place, n)
			}
			if _, ok := impl.PagePut(r.p, place, slotOf(n, 71), 9); !ok {
				t.Errorf("%s: %d bytes do not fit into the place %d that is told", r.name, n, place)
			}
		}
	}
}
