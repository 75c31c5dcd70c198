package tests

import (
	"bytes"
	"fmt"
	"math"
	"slices"
	"testing"

	"loop.example/g00252/impl"
)

// redoCall is one call that takes a heap, or a list, and records; what it answers is told by its parts.
type redoCall struct {
	name string
	do   func(h impl.Heap, list []int, l []impl.Record) heapAnswer
}

func redoOneCall(at int) redoCall {
	return redoCall{fmt.Sprint("RedoOne of record ", at), func(h impl.Heap, list []int, l []impl.Record) heapAnswer {
		after, ok := impl.RedoOne(h, l[at])
		return heapAnswer{h: after, n: []int{oneIf(ok)}}
	}}
}

func redoCalls(l []impl.Record) []redoCall {
	calls := []redoCall{
		{"RedoAll", func(h impl.Heap, list []int, l []impl.Record) heapAnswer {
			after, n := impl.RedoAll(h, l)
			return heapAnswer{h: after, n: []int{n}}
		}},
		{"RedoList", func(h impl.Heap, list []int, l []impl.Record) heapAnswer {
			after, n := impl.RedoList(list, l, 3)
			return heapAnswer{n: append(after, n)}
		}},
	}
	for at := range l {
		calls = append(calls, redoOneCall(at))
	}
	return calls
}

// memoryRedoLogs are records of each kind, right and wrong ones, over heaps as memoryHeaps has them.
func memoryRedoLogs() [][]impl.Record {
	put := tupleOfSize(24, 4)
	return [][]impl.Record{
		nil,
		redoLog(),
		{imageOf(50, 0, someTuples(3)), tupleRecord(51, 0, 1, put), tupleRecord(52, 0, 0, put), markRecord(53, 9, 0, 2), clearRecord(54, 0, 0), commitRecord(55, 9)},
		{tupleRecord(50, 4, 2, put), imageOf(51, 6, tuplesPage(9, 20, 0, 30)), markRecord(52, 9, 4, 2), clearRecord(53, 6, 2)},
		{tupleRecord(1, 0, 1, put), imageOf(1, 0, someTuples(3)), markRecord(1, 9, 0, 0), clearRecord(1, 0, 2), commitRecord(1, 8)},
		{imageRecord(50, 0), putRecord(50, 3, 0, 1, 30), markRecord(50, 3, 0, 9), clearRecord(50, 0, 9), {Kind: 9}, {}},
		{imageOf(50, 1, someTuples(3)), putRecord(51, 3, 0, 1, 30), commitRecord(52, 4)},
	}
}

func TestRedoLeavesItsArgumentsAndSharesNothing(t *testing.T) {
	for i, of := range memoryHeaps() {
		for k, l := range memoryRedoLogs() {
			if i > 40 && i%9 > 0 {
				continue
			}
			for _, c := range redoCalls(l) {
				name := fmt.Sprint(c.name, ", ", of.name, ", log ", k)
				g, log, says := guardHeap(of.h), guardLog(l), guardNumbers(someStatuses(20, 5))
				check := func(name string) {
					t.Helper()
					g.check(t, name)
					log.check(t, name)
					says.check(t, name)
				}
				got := c.do(g.h, says.l, log.l)
				want := got.clone()
				check(name)
				if plain := c.do(cloneHeap(of.h), someStatuses(20, 5), cloneLog(l)); !plain.same(want) {
					t.Errorf("%s: room behind a list shows", name)
				}
				again := c.do(g.h, says.l, log.l)
				wantNoneShared(t, name, got.h, again.h, g.h, log.l)
				got.wantApart(t, name)
				check(name + ", its answer spoilt")
				g.spoil()
				log.spoil()
				spoilNumbers(says.l)
				if !again.same(want) {
					t.Errorf("%s: shares memory with an argument or with another answer", name)
				}
			}
		}
	}
}

func TestListsLeaveTheirArgumentsAndShareNothing(t *testing.T) {
	for _, list := range memoryNumbers() {
		for k, l := range memoryRedoLogs() {
			for _, next := range []int{0, 1, 2, 100, mostStatuses, mostStatuses + 1} {
				name := fmt.Sprint("a list of ", len(list), ", log ", k, ", next ", next)
				says, log := guardNumbers(list), guardLog(l)
				got, after := impl.RedoList(says.l, log.l, next)
				says.check(t, name)
				log.check(t, name)
				want, plain := impl.RedoList(slices.Clone(list), cloneLog(l), next)
				if !slices.Equal(got, want) || after != plain {
					t.Errorf("%s: room behind a list shows", name)
				}
				wantNoneShared(t, name, got, says.l, log.l)
				spoilNumbers(got)
				says.check(t, name+", its answer spoilt")
				again, _ := impl.RedoList(says.l, log.l, next)
				spoilNumbers(says.l)
				log.spoil()
				if !slices.Equal(again, want) {
					t.Errorf("%s: its answer changes with an argument or with another answer", name)
				}
			}
		}
	}
}

// Pages and slots of one heap may stand on the same bytes, and so may the Data of all records.
func TestAnswersOfRedoOnOneListAreApart(t *testing.T) {
	image, tuple := plainPage(someTuples(3)), plainTuple(oneTuple())
	wantImage, wantTuple := bytes.Clone(image), bytes.Clone(tuple)
	records := func() []impl.Record {
		return []impl.Record{
			{Kind: impl.RecImage, Lsn: 50, Page: 0, Data: image}, {Kind: impl.RecImage, Lsn: 51, Page: 3, Data: image}, {Kind: impl.RecImage, Lsn: 52, Page: 3, Data: image},
			dataRecord(53, 1, 1, tuple), dataRecord(54, 1, 0, tuple), dataRecord(55, 4, 2, tuple), dataRecord(56, 4, 0, tuple),
			markRecord(57, 3, 4, 0), clearRecord(58, 1, 0), commitRecord(59, 2),
		}
	}
	for _, c := range redoCalls(records()) {
		h, list := sharedHeap(), sameOf(20, gone)
		got := c.do(h, list, records())
		if plain := c.do(cloneHeap(h), list, cloneLog(records())); !plain.same(got) {
			t.Errorf("%s on one list: %v, want %v", c.name, got, plain)
		}
		wantNoneShared(t, c.name+" on one list", got.h)
		got.wantApart(t, c.name+" on one list")
		if !sameHeap(h, sharedHeap()) || !bytes.Equal(image, wantImage) || !bytes.Equal(tuple, wantTuple) {
			t.Fatalf("%s: its answer shares memory with its argument", c.name)
		}
	}
}

// The heap that is told of one call is left by those that start from it.
func TestAHeapIsLeftByWhatIsDoneBehindIt(t *testing.T) {
	first, _ := impl.RedoAll(impl.Heap{}, redoLog()[:4])
	want := cloneHeap(first)
	left, _ := impl.RedoOne(first, tupleRecord(50, 3, 0, tupleOfSize(20, 1)))
	right, _ := impl.RedoOne(first, tupleRecord(51, 3, 0, tupleOfSize(20, 2)))
	same, _ := impl.RedoOne(first, commitRecord(52, 3))
	older, _ := impl.RedoOne(first, markRecord(1, 3, 0, 0))
	wantNoneShared(t, "four calls behind one heap", first, left, right, same, older)
	wantHeap(t, "four calls behind one heap", first, true, want)
	wantAt(t, "left", left, 3, 0, tupleOfSize(20, 1))
	wantAt(t, "right", right, 3, 0, tupleOfSize(20, 2))
	wantHeap(t, "a commit", same, true, want)
	wantHeap(t, "an older record", older, true, want)
}

func TestRedoNeverPanics(t *testing.T) {
	numbers := []int{math.MinInt, -1 << 32, -1, 0, 1, 2, 15, 16, 17, 92, 93, lastXid, lastXid + 1, lastLsn, lastLsn + 1, 1 << 32, math.MaxInt}
	data := [][]byte{nil, {0}, plainTuple(oneTuple()), make([]byte, 92), make([]byte, 93), make([]byte, 255), make([]byte, 256), bytes.Repeat([]byte{255}, 256), make([]byte, 257), make([]byte, 70000)}
	var all []impl.Record
	for i, x := range someBits(3000, 1605) {
		y := someBits(6, x)
		pick := func(k int, n int) int { return int(y[k] >> 20 % uint64(n)) }
		r := impl.Record{Kind: pick(0, 7), Lsn: 1 + pick(1, 99), Xid: pick(2, 3), Page: pick(3, 17), Slot: pick(4, 17), Data: data[pick(5, len(data))]}
		if i%3 == 0 {
			r.Kind, r.Lsn, r.Xid = numbers[pick(0, len(numbers))], numbers[pick(1, len(numbers))], numbers[pick(2, len(numbers))]
		}
		if i%5 == 0 {
			r.Page, r.Slot = numbers[pick(3, len(numbers))], numbers[pick(4, len(numbers))]
		}
		all = append(all, r)
	}
	heaps := slices.Concat(rightHeaps(), wrongHeaps(), brokenHeaps())
	for i, of := range heaps {
		for k := range 60 {
			r := all[(i*60+k)%len(all)]
			quiet(t, "RedoOne", func() { impl.RedoOne(of.h, r) })
		}
		quiet(t, "RedoAll", func() { impl.RedoAll(of.h, all[i%len(all):]) })
	}
	for i, r := range all {
		quiet(t, "RedoOne", func() { impl.RedoOne(heaps[i%25].h, r) })
		quiet(t, "RedoAll", func() { impl.RedoAll(heaps[i%25].h, []impl.Record{commitRecord(1, 1), r, r}) })
		quiet(t, "RedoList", func() { impl.RedoList(someNumbers(i%420, uint64(i)), []impl.Record{r, commitRecord(1, 400)}, i%420) })
	}
	for _, n := range numbers {
		quiet(t, "RedoList", func() { impl.RedoList(nil, nil, n) })
		quiet(t, "RedoList", func() { impl.RedoList(make([]int, 100000), all, n) })
		quiet(t, "RedoList", func() { impl.RedoList(numbers, commits(5, 1), n) })
	}
}

// Very many records are answered for, too.
func TestRedoOfVeryManyRecords(t *testing.T) {
	h := pagesOf(mostPages, someTuples)
	marks := slices.Repeat([]impl.Record{markRecord(1, 3, 9, 2), commitRecord(1, 7), tupleRecord(100, 3, 1, tupleOfSize(20, 2))}, 200000)
	after, ok := impl.RedoOne(h, marks[2])
	if !ok {
		t.Fatal("a put is refused")
	}
	wantAllRedone(t, "very many", h, marks, after, len(marks))
	wantList(t, "very many", nil, marks, 1, listOf(8, 7), 8)
	var rising []impl.Record
	for i := range 30000 {
		rising = append(rising, markRecord(100+i, 1+i%lastXid, 9, 2))
	}
	want, _ := impl.RedoOne(h, rising[len(rising)-1])
	wantAllRedone(t, "very many that rise", h, rising, want, len(rising))
}
