package tests

import (
	"fmt"
	"math"
	"slices"
	"testing"

	"loop.example/g00252/impl"
)

// versionOf is a tuple whose key tells who wrote it.
func versionOf(xmin int, xmax int) impl.Tuple {
	return tupleBy(xmin, xmax, intItem(xmin), textItem("v"))
}

// redoHeap has three pages of different age: tuples, a free slot between them; none; one tuple in the last slot.
func redoHeap() impl.Heap {
	return heapOf(
		pageWith(10, versionOf(3, 0), impl.Tuple{}, versionOf(4, 5)),
		noTuples(20),
		tuplesPage(30, append(sizesOf(mostSlots-1, 0), 40)...),
	)
}

// doneRecords are records, one of each kind but RecCommit, that can be done over the page 0 of redoHeap, and what it is then.
func doneRecords(lsn int) []struct {
	name string
	r    impl.Record
	want impl.Page
} {
	return []struct {
		name string
		r    impl.Record
		want impl.Page
	}{
		{"an image", imageOf(lsn, 0, tuplesPage(9, 20, 30)), impl.Page{Lsn: lsn, Slots: tuplesPage(9, 20, 30).Slots}},
		{"a put", tupleRecord(lsn, 0, 1, oneTuple()), pageWith(lsn, versionOf(3, 0), oneTuple(), versionOf(4, 5))},
		{"a mark", markRecord(lsn, 7, 0, 0), pageWith(lsn, versionOf(3, 7), impl.Tuple{}, versionOf(4, 5))},
		{"a clear", clearRecord(lsn, 0, 2), pageWith(lsn, versionOf(3, 0))},
	}
}

func TestRedoOfEachKind(t *testing.T) {
	h := redoHeap()
	for _, of := range doneRecords(11) {
		wantRedone(t, of.name, h, of.r, withPage(h, 0, of.want))
	}
	wantRedone(t, "a commit", h, commitRecord(11, 3), h)
	for _, kind := range wrongKinds() {
		for _, of := range doneRecords(11) {
			of.r.Kind = kind
			wantNotRedone(t, fmt.Sprint("kind ", kind), h, of.r)
		}
		r := commitRecord(11, 3)
		r.Kind = kind
		wantNotRedone(t, fmt.Sprint("kind ", kind), h, r)
	}
}

// A page that is as young as the record, or younger, has it already.
func TestRedoByTheAgeOfAPage(t *testing.T) {
	for _, lsn := range []int{1, 2, 9, 10, 11, 12, 255, 256, 257, 65536, lastLsn - 1, lastLsn} {
		for _, of := range []struct {
			name string
			lsn  int
		}{{"0", 0}, {"one below", lsn - 1}, {"at it", lsn}, {"one above", lsn + 1}, {"the greatest", lastLsn}, {"1", 1}, {"far below", lsn / 2}} {
			if of.lsn > lastLsn {
				continue
			}
			h := redoHeap()
			h.Pages[0].Lsn = of.lsn
			for _, r := range doneRecords(lsn) {
				want := h
				if of.lsn < lsn {
					want = withPage(h, 0, r.want)
				}
				wantRedone(t, fmt.Sprint(r.name, " of Lsn ", lsn, ", the page's ", of.name), h, r.r, want)
			}
			wantRedone(t, "a commit", h, commitRecord(lsn, 3), h)
		}
	}
}

// What a record says is not looked at where its page has it already; but it has to be a record.
func TestRedoOverAYoungerPageAsksForNothing(t *testing.T) {
	for _, lsn := range []int{5, 9, 10} {
		for name, r := range map[string]impl.Record{
			"an image of no page":       imageRecord(lsn, 0),
			"an image without tuples":   imageOf(lsn, 0, sizedPage(3, 9)),
			"a put of no tuple":         putRecord(lsn, 3, 0, 1, 9),
			"a put without room":        putRecord(lsn, 3, 0, 15, 92),
			"a put over another":        tupleRecord(lsn, 0, 0, oneTuple()),
			"a mark of a free slot":     markRecord(lsn, 3, 0, 1),
			"a mark behind the last":    markRecord(lsn, 3, 0, 3),
			"a clear of a free slot":    clearRecord(lsn, 0, 1),
			"a clear behind the last":   clearRecord(lsn, 0, 15),
			"a mark of the first tuple": markRecord(lsn, 9, 0, 0),
		} {
			h := redoHeap()
			h.Pages[0] = fullPage(10)
			h.Pages[0].Slots = slices.Insert(h.Pages[0].Slots[:2], 1, nil)
			wantRedone(t, name, h, r, h)
		}
	}
	h := redoHeap()
	for _, w := range wrongRecords() {
		r := w.r
		if w.name != "Lsn" {
			r.Lsn = 5
		}
		if w.name != "Page" {
			r.Page = 0
		}
		wantNotRedone(t, "a younger page, "+w.name, h, r)
	}
	long := imageOf(5, 0, impl.Page{})
	long.Data = append(long.Data, 0)
	wantNotRedone(t, "a younger page, an image that is too long", h, long)
	wantNotRedone(t, "a younger page, a mark of nobody", h, markRecord(5, 0, 0, 0))
	wantNotRedone(t, "a younger page, a clear by somebody", h, impl.Record{Kind: impl.RecClear, Lsn: 5, Xid: 1})
}

func TestRedoOverWhatIsNoHeap(t *testing.T) {
	for _, w := range slices.Concat(wrongHeaps(), brokenHeaps()) {
		for _, of := range doneRecords(11) {
			wantNotRedone(t, w.name+", "+of.name, w.h, of.r)
			of.r.Page = 9
			wantNotRedone(t, w.name+", "+of.name+" of another page", w.h, of.r)
		}
		wantNotRedone(t, w.name+", a commit", w.h, commitRecord(11, 3))
		wantNotRedone(t, w.name+", an image over the wrong page", w.h, imageOf(11, len(w.h.Pages)/2%16, impl.Page{}))
	}
}

func TestRedoOfWhatIsNoRecord(t *testing.T) {
	for _, w := range wrongRecords() {
		for _, h := range []impl.Heap{{}, redoHeap(), pagesOf(mostPages, someTuples), pagesOf(mostPages, noTuples)} {
			wantNotRedone(t, "wrong "+w.name, h, w.r)
		}
	}
	for i, w := range wrongRecords() {
		if i%7 == 0 {
			for _, h := range wrongHeaps()[:60] {
				wantNotRedone(t, "wrong "+w.name+" and "+h.name, h.h, w.r)
			}
		}
	}
	wantNotRedone(t, "all of it wrong", pagesOf(17, someTuples), impl.Record{Kind: 9, Lsn: -1, Page: 99, Slot: math.MaxInt, Data: make([]byte, 5000)})
}

// Pages that are not there yet are made up to the record's.
func TestRedoMakesPages(t *testing.T) {
	for count := range mostPages + 1 {
		h := pagesOf(count, someTuples)
		for page := range mostPages {
			if page < count {
				continue
			}
			name := fmt.Sprint(count, " pages, page ", page)
			want := cloneHeap(h)
			want.Pages = append(want.Pages, make([]impl.Page, page+1-count)...)
			wantRedone(t, name+", an image", h, imageOf(50, page, tuplesPage(4, 20)), withPage(want, page, impl.Page{Lsn: 50, Slots: tuplesPage(4, 20).Slots}))
			wantRedone(t, name+", an image of Lsn 1", h, imageOf(1, page, impl.Page{}), withPage(want, page, noTuples(1)))
			wantRedone(t, name+", a put", h, tupleRecord(50, page, 0, oneTuple()), withPage(want, page, pageWith(50, oneTuple())))
			wantRedone(t, name+", a put of Lsn 1 into the last slot", h, tupleRecord(1, page, 15, tupleOfSize(40, 615)), withPage(want, page, impl.Page{Lsn: 1, Slots: append(make([][]byte, 15), plainTuple(tupleOfSize(40, 615)))}))
			wantNotRedone(t, name+", a mark", h, markRecord(50, 3, page, 0))
			wantNotRedone(t, name+", a clear", h, clearRecord(50, page, 0))
			wantNotRedone(t, name+", a put of no tuple", h, putRecord(50, 3, page, 0, 20))
			wantNotRedone(t, name+", an image of no page", h, imageRecord(50, page))
		}
		for _, page := range []int{mostPages, mostPages + 1, 255, math.MaxInt, -1, math.MinInt} {
			for _, of := range doneRecords(60) {
				of.r.Page = page
				wantNotRedone(t, fmt.Sprint(count, " pages, page ", page, ", ", of.name), h, of.r)
			}
		}
		wantRedone(t, fmt.Sprint(count, " pages, a commit"), h, commitRecord(50, 3), h)
	}
}

func TestRedoOfImages(t *testing.T) {
	h := redoHeap()
	zeros := imageOf(50, 0, impl.Page{})
	zeros.Data = make([]byte, pageSize)
	wantRedone(t, "bytes 0", h, zeros, withPage(h, 0, noTuples(50)))
	for _, lsn := range []int{0, 1, 9, 10, 11, 49, 50, 51, 1000, lastLsn} {
		p := tuplesPage(3, 20, 0, 30)
		p.Lsn = lsn
		wantRedone(t, fmt.Sprint("of the Lsn ", lsn), h, imageOf(50, 0, p), withPage(h, 0, impl.Page{Lsn: 50, Slots: p.Slots}))
		wantRedone(t, fmt.Sprint("without slots of the Lsn ", lsn), h, imageOf(50, 2, noTuples(lsn)), withPage(h, 2, noTuples(50)))
	}
	for _, of := range rightHeaps() {
		for _, p := range of.h.Pages {
			want := clonePage(p)
			want.Lsn = 50
			wantRedone(t, of.name, h, imageOf(50, 1, p), withPage(h, 1, want))
		}
	}
	for _, w := range heaplessPages() {
		if len(plainPage(w.p)) == pageSize {
			wantNotRedone(t, w.name, h, imageOf(50, 0, w.p))
		}
	}
	wantNotRedone(t, "bytes that are no page", h, imageRecord(50, 0))
	torn := imageOf(50, 0, impl.Page{})
	torn.Data = plainSectors(plainSlots(tuplesPage(3, 20, 30).Slots), 3, 4)
	wantNotRedone(t, "sectors of two pages", h, torn)
	for _, w := range rightPages() {
		if !plainHeapOk(heapOf(w.p)) {
			wantNotRedone(t, "no tuples, "+w.name, h, imageOf(50, 0, w.p))
		}
	}
	for _, n := range []int{0, 1, 64, 240, 255, 257, 258, 320, 512} {
		r := imageOf(50, 0, impl.Page{})
		r.Data = make([]byte, n)
		wantNotRedone(t, fmt.Sprint(n, " bytes"), h, r)
	}
}

func TestRedoOfPuts(t *testing.T) {
	h := redoHeap()
	first, last, put := versionOf(3, 0), versionOf(4, 5), tupleOfSize(50, 8)
	free := impl.Tuple{}
	for _, of := range []struct {
		name string
		slot int
		want impl.Page
	}{
		{"the free slot", 1, pageWith(50, first, put, last)},
		{"the first slot, which is taken", 0, pageWith(50, put, free, last)},
		{"the last slot, which is taken", 2, pageWith(50, first, free, put)},
		{"the slot behind the last", 3, pageWith(50, first, free, last, put)},
		{"a slot far behind the last", 6, pageWith(50, first, free, last, free, free, free, put)},
		{"the last slot that there may be", 15, pageWith(50, first, free, last, free, free, free, free, free, free, free, free, free, free, free, free, put)},
	} {
		wantRedone(t, of.name, h, tupleRecord(50, 0, of.slot, put), withPage(h, 0, of.want))
	}
	wantRedone(t, "a page without slots", h, tupleRecord(50, 1, 0, put), withPage(h, 1, pageWith(50, put)))
	for _, data := range noTupleSlots() {
		for slot := range 5 {
			wantNotRedone(t, fmt.Sprintf("no tuple into the slot %d: %x", slot, data), h, dataRecord(50, 0, slot, data))
		}
	}
	wantNotRedone(t, "no data", h, dataRecord(50, 0, 1, nil))
	wantNotRedone(t, "too much data", h, dataRecord(50, 0, 1, make([]byte, longestSlot+1)))
	other := tupleRecord(50, 0, 1, put)
	other.Xid = 399
	wantRedone(t, "who wrote it counts for nothing", h, other, withPage(h, 0, pageWith(50, first, put, last)))
}

func TestRedoOfPutsByTheRoom(t *testing.T) {
	h := heapOf(tuplesPage(9, 92, 0, 92), fullPage(9), tuplesPage(9, sizesOf(mostSlots, leastTuple)...))
	for n := leastTuple; n <= longestSlot; n++ {
		for _, of := range []struct{ page, slot, most int }{
			{0, 1, 52}, {0, 0, 92}, {0, 3, 51}, {0, 15, 39},
			{1, 3, 0}, {1, 0, 92}, {1, 1, 92}, {1, 2, 52},
			{2, 0, 43}, {2, 15, 43},
		} {
			name := fmt.Sprint(n, " bytes into the slot ", of.slot, " of the page ", of.page)
			r := tupleRecord(50, of.page, of.slot, tupleOfSize(n, 5))
			if wantRedoneAsPlainly(t, name, h, r) != (n <= of.most) {
				t.Errorf("%s: there is room for %d", name, of.most)
			}
		}
	}
}

func TestRedoOfMarksAndClears(t *testing.T) {
	h := redoHeap()
	marked := tuplesPage(30, append(sizesOf(mostSlots-1, 0), 40)...)
	at, _ := plainTupleRead(marked.Slots[15])
	at.Xmax = 8
	marked.Slots[15], marked.Lsn = plainTuple(at), 50
	wantRedone(t, "a mark of the first", h, markRecord(50, 8, 0, 0), withPage(h, 0, pageWith(50, versionOf(3, 8), impl.Tuple{}, versionOf(4, 5))))
	wantRedone(t, "a mark of one that has one", h, markRecord(50, 400, 0, 2), withPage(h, 0, pageWith(50, versionOf(3, 0), impl.Tuple{}, versionOf(4, 400))))
	wantRedone(t, "a mark that it has", h, markRecord(50, 5, 0, 2), withPage(h, 0, pageWith(50, versionOf(3, 0), impl.Tuple{}, versionOf(4, 5))))
	wantRedone(t, "a mark of the last slot", h, markRecord(50, 8, 2, 15), withPage(h, 2, marked))
	wantRedone(t, "a clear of the first", h, clearRecord(50, 0, 0), withPage(h, 0, pageWith(50, impl.Tuple{}, impl.Tuple{}, versionOf(4, 5))))
	wantRedone(t, "a clear of the last, a free one ahead", h, clearRecord(50, 0, 2), withPage(h, 0, pageWith(50, versionOf(3, 0))))
	wantRedone(t, "a clear of the only one", h, clearRecord(50, 2, 15), withPage(h, 2, noTuples(50)))
	for _, place := range [][2]int{{0, 1}, {0, 3}, {0, 4}, {0, 15}, {1, 0}, {1, 15}, {2, 0}, {2, 14}, {3, 0}, {3, 15}, {15, 0}, {15, 15}} {
		name := fmt.Sprint("the slot ", place[1], " of the page ", place[0])
		wantNotRedone(t, "a mark of "+name, h, markRecord(50, 8, place[0], place[1]))
		wantNotRedone(t, "a clear of "+name, h, clearRecord(50, place[0], place[1]))
	}
	full := pagesOf(mostPages, fullPage)
	for page := range mostPages {
		for slot := range mostSlots {
			for _, r := range []impl.Record{markRecord(50, 8, page, slot), clearRecord(50, page, slot)} {
				if wantRedoneAsPlainly(t, "full pages", full, r) != (slot < 3) {
					t.Errorf("page %d, slot %d: kind %d", page, slot, r.Kind)
				}
			}
		}
	}
}

// A commit changes no heap, and asks for no page.
func TestRedoOfCommits(t *testing.T) {
	for _, of := range rightHeaps() {
		for _, lsn := range []int{1, 5, 1000, lastLsn} {
			for _, xid := range []int{1, 400} {
				wantRedone(t, "a commit, "+of.name, of.h, commitRecord(lsn, xid), of.h)
			}
		}
	}
	for _, r := range []impl.Record{
		commitRecord(0, 3), commitRecord(lastLsn+1, 3), commitRecord(5, 0), commitRecord(5, 401),
		{Kind: impl.RecCommit, Lsn: 5, Xid: 3, Page: 1}, {Kind: impl.RecCommit, Lsn: 5, Xid: 3, Slot: 1}, {Kind: impl.RecCommit, Lsn: 5, Xid: 3, Data: []byte{0}},
	} {
		wantNotRedone(t, "a wrong commit", redoHeap(), r)
	}
}

func TestRedoOneAsTheDocumentSays(t *testing.T) {
	var redone, refused [6]int
	for i, x := range someBits(6000, 1601) {
		h := someHeap(x)
		r := someRecord(h, x+1)
		if wantRedoneAsPlainly(t, fmt.Sprint("seed ", i), h, r) {
			redone[r.Kind]++
		} else {
			refused[r.Kind]++
		}
		if t.Failed() {
			t.FailNow()
		}
	}
	if slices.Min(redone[1:]) < 300 || slices.Min(refused[1:5]) < 100 {
		t.Errorf("by their kinds %v were done and %v refused", redone, refused)
	}
	for _, of := range rightHeaps() {
		for _, r := range rightRecords() {
			if r.Lsn < 300 && r.Kind != impl.RecPut {
				wantRedoneAsPlainly(t, of.name, of.h, r)
			}
		}
	}
}

func TestRedoIsTheSameHoweverOftenItIsAsked(t *testing.T) {
	for seed := range uint64(200) {
		h := someHeap(seed + 900)
		var l []impl.Record
		for i := range uint64(10) {
			l = append(l, someRecord(h, seed*100+i))
		}
		first, done := impl.RedoAll(h, l)
		for range 3 {
			wantAllRedone(t, "again", h, l, first, done)
			for _, r := range l {
				one, ok := impl.RedoOne(h, r)
				again, okAgain := impl.RedoOne(h, r)
				if ok != okAgain || !sameHeap(one, again) {
					t.Fatalf("seed %d: RedoOne is %v and then %v", seed, one, again)
				}
			}
			list, after := impl.RedoList([]int{0, 1, 2}, l, 4)
			wantList(t, "again", []int{0, 1, 2}, l, 4, list, after)
		}
	}
}
