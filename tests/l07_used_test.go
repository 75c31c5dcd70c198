package tests

import (
	"testing"

	"loop.example/g00252/impl"
)

func TestPageLimits(t *testing.T) {
	if impl.PageBody != bodySize || impl.PageSize != pageSize || impl.MaxSlots != mostSlots || impl.MaxTuple != longestSlot || impl.MaxLsn != lastLsn {
		t.Error("a limit of pages is another than the document's")
	}
}

func TestPageUsedCountsSlotsAndBytes(t *testing.T) {
	for _, c := range []struct {
		p    impl.Page
		want int
	}{
		{impl.Page{}, 1},
		{impl.Page{Slots: [][]byte{}}, 1},
		{sizedPage(9), 1},
		{sizedPage(9, 1), 3},
		{sizedPage(9, 92), 94},
		{sizedPage(9, 0, 1), 4},
		{sizedPage(9, 5, 0, 6), 15},
		{sizedPage(9, 5, 0, 0, 0, 6), 17},
		{sizedPage(9, sizesOf(16, 1)...), 33},
		{sizedPage(9, append(sizesOf(15, 0), 1)...), 18},
		{sizedPage(9, 92, 92, 51), 239},
		{sizedPage(9, 92, 92, 52), 240},
		{sizedPage(9, crammed()...), 240},
	} {
		if got := impl.PageUsed(c.p); got != c.want {
			t.Errorf("PageUsed(%v) = %d, want %d", c.p, got, c.want)
		}
	}
}

func TestPageUsedOnBothSidesOfEachLimit(t *testing.T) {
	for _, c := range []struct {
		name        string
		well, wrong impl.Page
		used        int
	}{
		{"Lsn 0, -1", sizedPage(0, 4), sizedPage(-1, 4), 6},
		{"Lsn 0, -1, without slots", sizedPage(0), sizedPage(-1), 1},
		{"Lsn MaxLsn, one more", sizedPage(lastLsn, 4), sizedPage(lastLsn+1, 4), 6},
		{"MaxSlots, one more", sizedPage(1, sizesOf(16, 1)...), sizedPage(1, sizesOf(17, 1)...), 33},
		{"MaxTuple, one more", sizedPage(1, 92), sizedPage(1, 93), 94},
		{"MaxTuple, one more, first", sizedPage(1, 92, 4), sizedPage(1, 93, 4), 99},
		{"MaxTuple, one more, last", sizedPage(1, 4, 92), sizedPage(1, 4, 93), 99},
		{"a free slot between, as the last one", sizedPage(1, 4, 0, 4), sizedPage(1, 4, 4, 0), 12},
		{"a free slot first, as the only one", sizedPage(1, 0, 4), sizedPage(1, 0), 7},
		{"PageBody met, passed by one", sizedPage(1, 92, 92, 52), sizedPage(1, 92, 92, 53), 240},
		{"PageBody met, passed by one, a free slot", sizedPage(1, 92, 0, 92, 51), sizedPage(1, 92, 0, 92, 52), 240},
		{"PageBody met, passed by a free slot", sizedPage(1, 92, 92, 52), sizedPage(1, 92, 0, 92, 52), 240},
	} {
		if got := impl.PageUsed(c.well); got != c.used {
			t.Errorf("%s: PageUsed = %d, want %d", c.name, got, c.used)
		}
		if got := impl.PageUsed(c.wrong); got != -1 {
			t.Errorf("%s: PageUsed = %d, want -1", c.name, got)
		}
	}
}

func TestPageUsedOfAllPages(t *testing.T) {
	for _, n := range rightPages() {
		if got, want := impl.PageUsed(n.p), plainUsed(n.p); got != want || got < 1 {
			t.Errorf("%s: PageUsed = %d, want %d", n.name, got, want)
		}
	}
	for _, n := range append(wrongPages(), brokenPages()...) {
		if got := impl.PageUsed(n.p); got != -1 {
			t.Errorf("%s: PageUsed = %d, want -1", n.name, got)
		}
	}
}

func TestPageUsedDoesNotLookBehindTheSlots(t *testing.T) {
	p := sizedPage(1, 4, 5, 200, 0)
	p.Slots = p.Slots[:2]
	if got := impl.PageUsed(p); got != 12 {
		t.Errorf("PageUsed = %d, want 12", got)
	}
	p.Slots = p.Slots[:0]
	if got := impl.PageUsed(p); got != 1 {
		t.Errorf("PageUsed = %d, want 1", got)
	}
}
