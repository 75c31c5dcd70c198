package tests

import (
	"fmt"
	"slices"
	"testing"

	"loop.example/g00252/impl"
)

// redoLog can be done again over no pages: records of two pages, the second of which is not the one behind the first.
func redoLog() []impl.Record {
	return []impl.Record{
		imageOf(1, 0, impl.Page{}),
		tupleRecord(2, 0, 0, versionOf(3, 0)),
		imageOf(3, 2, impl.Page{}),
		tupleRecord(4, 2, 1, versionOf(4, 0)),
		markRecord(5, 4, 0, 0),
		commitRecord(6, 4),
		clearRecord(7, 2, 1),
	}
}

// redoLogBehind is the heap behind each number of records of redoLog.
func redoLogBehind() []impl.Heap {
	first, marked := pageWith(2, versionOf(3, 0)), pageWith(5, versionOf(3, 4))
	second := pageWith(4, impl.Tuple{}, versionOf(4, 0))
	zero := impl.Page{}
	return []impl.Heap{
		{}, heapOf(noTuples(1)), heapOf(first), heapOf(first, zero, noTuples(3)), heapOf(first, zero, second),
		heapOf(marked, zero, second), heapOf(marked, zero, second), heapOf(marked, zero, noTuples(7)),
	}
}

func TestRedoAllOfNoRecords(t *testing.T) {
	for _, of := range rightHeaps() {
		wantAllRedone(t, of.name, of.h, nil, of.h, 0)
		wantAllRedone(t, of.name, of.h, []impl.Record{}, of.h, 0)
		wantAllRedone(t, of.name+", records behind the length", of.h, redoLog()[:0], of.h, 0)
	}
}

func TestRedoAllOfAll(t *testing.T) {
	for n, want := range redoLogBehind() {
		wantAllRedone(t, fmt.Sprint(n, " records"), impl.Heap{}, redoLog()[:n], want, n)
	}
	for n, h := range redoLogBehind() {
		wantAllRedone(t, fmt.Sprint("behind ", n, " records"), h, redoLog(), redoLogBehind()[7], 7)
		wantAllRedone(t, fmt.Sprint("behind ", n, " records, the others"), h, redoLog()[n:], redoLogBehind()[7], 7-n)
	}
}

// refusedRecords can be done over none of redoLogBehind.
func refusedRecords() []wrongRecord {
	l := []wrongRecord{
		{"a mark of a page that is not there", markRecord(90, 3, 9, 0)},
		{"a clear of a page that is not there", clearRecord(90, 9, 0)},
		{"a put of no tuple into a page that is not there", putRecord(90, 3, 9, 0, 30)},
		{"an image of no page that is not there", imageRecord(90, 9)},
		{"a mark of nothing", markRecord(90, 3, 0, 5)},
		{"a clear of nothing", clearRecord(90, 0, 5)},
		{"a put of no tuple", putRecord(90, 3, 0, 0, 30)},
		{"an image of no page", imageRecord(90, 0)},
		{"an image without tuples", imageOf(90, 0, sizedPage(3, 10))},
	}
	return append(l, wrongRecords()...)
}

// The first that is refused ends it, whatever stands behind; the heap is that behind those ahead.
func TestRedoAllUpToWhatIsRefused(t *testing.T) {
	for at, want := range redoLogBehind() {
		for _, w := range refusedRecords() {
			name := fmt.Sprint(w.name, " at the place ", at)
			wantAllRedone(t, name, impl.Heap{}, slices.Insert(redoLog(), at, w.r), want, at)
			wantAllRedone(t, name+", alone behind", impl.Heap{}, append(redoLog()[:at], w.r), want, at)
			wantAllRedone(t, name+", twice", impl.Heap{}, slices.Concat(redoLog()[:at], []impl.Record{w.r, w.r}, redoLog()[at:]), want, at)
		}
	}
	for _, of := range rightHeaps() {
		wantAllRedone(t, "the first, "+of.name, of.h, []impl.Record{{Kind: 9}, commitRecord(1, 1)}, of.h, 0)
		wantAllRedone(t, "the second, "+of.name, of.h, []impl.Record{commitRecord(1, 1), {Kind: 9}, commitRecord(2, 1)}, of.h, 1)
	}
}

func TestRedoAllOverWhatIsNoHeap(t *testing.T) {
	logs := [][]impl.Record{nil, redoLog(), {commitRecord(1, 1)}, {imageOf(99, 0, impl.Page{})}, {{Kind: 9}}, {commitRecord(1, 1), {}}}
	for _, w := range slices.Concat(wrongHeaps(), brokenHeaps()) {
		for i, l := range logs {
			wantAllRedone(t, fmt.Sprint(w.name, ", log ", i), w.h, l, impl.Heap{}, 0)
		}
	}
}

// Beside a page that has all of its records already there is one that has some, and one that has none.
func TestRedoAllOverPagesOfDifferentAge(t *testing.T) {
	one, two, three := versionOf(1, 0), versionOf(2, 0), versionOf(3, 0)
	l := []impl.Record{
		imageOf(11, 0, pageWith(5, one)), tupleRecord(12, 0, 1, two),
		imageOf(13, 1, pageWith(6, one)), tupleRecord(14, 1, 1, two),
		imageOf(15, 2, pageWith(7, one)), tupleRecord(16, 2, 1, two),
		markRecord(17, 9, 0, 0), markRecord(18, 9, 1, 0), markRecord(19, 9, 2, 0),
		clearRecord(20, 0, 0), clearRecord(21, 1, 0), clearRecord(22, 2, 0),
		tupleRecord(23, 0, 0, three), tupleRecord(24, 1, 0, three), tupleRecord(25, 2, 0, three),
	}
	end := heapOf(pageWith(23, three, two), pageWith(24, three, two), pageWith(25, three, two))
	state := func(page int, age int) impl.Page {
		marked := versionOf(1, 9)
		return []impl.Page{
			{}, pageWith(5+page, one), pageWith(11+2*page, one), pageWith(12+2*page, one, two), pageWith(17+page, marked, two),
			pageWith(20+page, impl.Tuple{}, two), pageWith(23+page, three, two),
		}[age]
	}
	for ages := range 7 * 7 * 7 {
		h := heapOf(state(0, ages%7), state(1, ages/7%7), state(2, ages/49))
		wantAllRedone(t, fmt.Sprint("ages ", ages), h, l, end, len(l))
	}
	young := pageWith(50, tupleOfSize(60, 4))
	for page := range 3 {
		h := withPage(heapOf(state(0, 1), state(1, 1), state(2, 1)), page, young)
		wantAllRedone(t, fmt.Sprint("page ", page, " younger than all"), h, l, withPage(end, page, young), len(l))
	}
	wantAllRedone(t, "fewer pages", heapOf(state(0, 3)), l, end, len(l))
	wantAllRedone(t, "more pages", heapOf(state(0, 3), state(1, 0), state(2, 6), young), l, heapOf(append(cloneHeap(end).Pages, young)...), len(l))
}

// The records' numbers need not follow; each is held against its page alone.
func TestRedoAllByEachPagesOwnAge(t *testing.T) {
	l := []impl.Record{
		tupleRecord(40, 0, 0, versionOf(1, 0)),
		tupleRecord(30, 1, 0, versionOf(2, 0)),
		tupleRecord(39, 0, 1, versionOf(3, 0)),
		tupleRecord(31, 1, 1, versionOf(4, 0)),
		tupleRecord(40, 0, 2, versionOf(5, 0)),
		commitRecord(1, 9),
		tupleRecord(41, 0, 2, versionOf(6, 0)),
	}
	want := heapOf(pageWith(41, versionOf(1, 0), impl.Tuple{}, versionOf(6, 0)), pageWith(31, versionOf(2, 0), versionOf(4, 0)))
	wantAllRedone(t, "numbers that do not follow", impl.Heap{}, l, want, len(l))
}

// What is refused over an older page is done, by changing nothing, over a younger one.
func TestRedoAllPassesOverWhatAYoungerPageHas(t *testing.T) {
	for _, w := range refusedRecords()[:9] {
		h := pagesOf(10, noTuples)
		for i := range h.Pages {
			h.Pages[i].Lsn = 90
		}
		wantAllRedone(t, w.name, h, []impl.Record{w.r, commitRecord(1, 1)}, h, 2)
		h.Pages[w.r.Page].Lsn = 89
		wantAllRedone(t, w.name+", an older page", h, []impl.Record{w.r, commitRecord(1, 1)}, h, 0)
	}
}

func TestRedoAllAsTheDocumentSays(t *testing.T) {
	whole, cut := 0, 0
	for i, x := range someBits(500, 1602) {
		h := someHeap(x)
		var l []impl.Record
		at := h
		for k := range x >> 20 % 30 {
			r := someRecord(at, x+k)
			if after, ok := plainRedoOne(at, r); ok {
				at = after
			} else if k%8 > 0 {
				continue
			}
			l = append(l, r)
		}
		want, n := plainRedoAll(h, l)
		wantAllRedone(t, fmt.Sprint("seed ", i), h, l, want, n)
		if t.Failed() {
			t.FailNow()
		}
		whole += oneIf(n == len(l) && n > 5)
		cut += oneIf(n < len(l) && n > 5)
	}
	if whole < 100 || cut < 50 {
		t.Errorf("%d logs were done whole, %d in part", whole, cut)
	}
}

// Done in two pieces, wherever it is cut, a log gives the same.
func TestRedoAllInPieces(t *testing.T) {
	for i, x := range someBits(60, 1603) {
		h := someHeap(x)
		var l []impl.Record
		for k := range uint64(12) {
			if r := someRecord(h, x+k); wantRedoneAsPlainly(t, "a piece", h, r) {
				l = append(l, r)
			}
		}
		want, n := impl.RedoAll(h, l)
		for cut := range l[:n] {
			ahead, first := impl.RedoAll(h, l[:cut])
			if behind, second := impl.RedoAll(ahead, l[cut:]); first+second != n || !sameHeap(behind, want) {
				t.Fatalf("seed %d: cut at %d a log of %d has done %d and %d", i, cut, n, first, second)
			}
		}
	}
}
