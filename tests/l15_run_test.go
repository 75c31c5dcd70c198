package tests

import (
	"fmt"
	"math"
	"slices"
	"strings"
	"testing"

	"loop.example/g00252/impl"
)

func TestRunOfNoOpsIsTheFreshDb(t *testing.T) {
	for _, ops := range [][]impl.Op{nil, {}, make([]impl.Op, 0, 5)} {
		p := impl.LiveRun(ops)
		if len(p.Replies) != 0 {
			t.Errorf("replies to no op: %v", p.Replies)
		}
		if field := otherField(p.Db, plainFresh()); field != "" {
			t.Errorf("%s is not fresh", field)
		}
		db := p.Db
		if len(db.Seats) != 8 || len(db.Heap.Pages) != 0 || len(db.List) != 1 || db.List[0] != 0 || len(db.Tree.Nodes) != 1 || !db.Tree.Nodes[0].Leaf || db.Tree.Root != 0 {
			t.Errorf("the fresh Db is %v", db)
		}
		wantNumbers(t, "fresh", db, 1, 0, 0, 1)
		for _, s := range db.Seats {
			wantSeat(t, "fresh", s, impl.Seat{})
		}
	}
}

func TestRunsUpToMaxOps(t *testing.T) {
	for _, n := range []int{1, 2, mostOps - 1, mostOps} {
		p := impl.LiveRun(slices.Repeat([]impl.Op{{Kind: opVacuum}}, n))
		if len(p.Replies) != n || p.Db.Next != 1 {
			t.Errorf("%d ops: %d replies", n, len(p.Replies))
		}
	}
	for _, n := range []int{mostOps + 1, mostOps + 2, 256, 256 + mostOps, 100000} {
		for _, o := range []impl.Op{{Kind: opVacuum}, {Kind: opBegin}, {}} {
			if p := impl.LiveRun(slices.Repeat([]impl.Op{o}, n)); !samePlay(p, impl.Play{}) || len(p.Db.Seats) != 0 {
				t.Errorf("%d ops: %d replies, %d seats, want the zero value", n, len(p.Replies), len(p.Db.Seats))
			}
		}
	}
}

// MaxOps ops of each sort that come to the most: transactions, rows, records, deeds, tracks.
func TestRunsOfMaxOpsAtTheirMost(t *testing.T) {
	order, commit := impl.Op{Kind: opBegin, Level: 1}, impl.Op{Kind: opCommit}
	p := wantAsPlainly(t, "as many deeds as may be", slices.Repeat([]impl.Op{order, commit}, mostOps/2))
	if len(p.Db.Deeds) != mostDeeds || p.Db.Next != mostDeeds+1 || p.Db.Clock != mostOps || !impl.DeedsOk(p.Db.Deeds) {
		t.Errorf("%d deeds, Next %d, Clock %d", len(p.Db.Deeds), p.Db.Next, p.Db.Clock)
	}
	abort := impl.Op{Kind: opAbort}
	p = wantAsPlainly(t, "all given up", slices.Repeat([]impl.Op{order, abort}, mostOps/2))
	if len(p.Db.Deeds) != 0 || len(p.Db.Tracks) != 0 || p.Db.Next != mostDeeds+1 {
		t.Errorf("%d deeds, %d tracks, Next %d", len(p.Db.Deeds), len(p.Db.Tracks), p.Db.Next)
	}
	for _, level := range []int{0, 1} {
		many := []impl.Op{{Kind: opBegin, Level: level}}
		for i := range mostOps - 2 {
			many = append(many, impl.Op{Kind: opPut, Key: impl.Item{Kind: impl.ItText, T: []byte{byte(i * 37)}}, Value: textItem("")})
		}
		p = wantAsPlainly(t, "as many rows as may be", append(many, commit))
		if len(impl.HeapRows(p.Db.Heap)) != 198 || len(p.Db.Log) != 198+1+len(p.Db.Heap.Pages) {
			t.Errorf("%d rows, %d records", len(impl.HeapRows(p.Db.Heap)), len(p.Db.Log))
		}
		wantTreeOfRows(t, "as many rows as may be", p.Db)
	}
}

// waitingSeat has a seat 1 that waits for the transaction of seat 0, and a seat 2 that is Open.
const waitingSeat = `
	begin 0 => done 1
	begin 1 => done 2
	begin 2 => done 3
	put 0 5 50 => done
	put 1 5 51 => wait 1
`

func TestChecksByThemselves(t *testing.T) {
	wantPlay(t, "bad", "get 0 5 => shut\nscan 0 5 6 51 => bad\ncheckpoint => bad\nevict => bad\nfuse => bad\ncrash => bad\nnothing => bad\nbegin 8 => bad")
	wantPlay(t, "vacuum", "vacuum => done")
	wantPlay(t, "busy", waitingSeat+"get 1 6 => busy\nput 1 6 1 => busy\ndelete 1 6 => busy\nscan 1 5 6 1 => busy\ntotal 1 5 6 => busy\ncommit 1 => busy\nabort 1 => busy\nbegin 1 => busy\norder 1 => busy")
	wantPlay(t, "open", "begin 0 => done 1\nbegin 0 => open\norder 0 => open\nbegin 1 => done 2\nbegin 0 => open")
	wantPlay(t, "shut", "get 0 5 => shut\nput 0 5 1 => shut\ndelete 0 5 => shut\nscan 0 5 6 1 => shut\ntotal 0 5 6 => shut\ncommit 0 => shut\nabort 0 => shut")
	wantPlay(t, "shut again", "begin 7 => done 1\ncommit 7 => done 1\ncommit 7 => shut\nbegin 7 => done 2\nabort 7 => done\nabort 7 => shut\nget 7 1 => shut")
}

func TestEachCheckAheadOfTheNext(t *testing.T) {
	wantPlay(t, "bad ahead of busy", waitingSeat+"scan 1 5 6 51 => bad\nscan 1 5 6 -1 => bad\ncheckpoint 1 => bad\nfuse 1 => bad\nscan 1 5 6 50 => busy")
	wantPlay(t, "vacuum ahead of busy", waitingSeat+"vacuum 1 => done\nvacuum 9 => done\nvacuum -1 => done")
	wantPlay(t, "bad ahead of shut", "scan 0 5 6 51 => bad\nscan 0 5 6 50 => shut\ncrash 0 => bad")
	wantPlay(t, "vacuum ahead of shut", "vacuum 3 => done")
	wantPlay(t, "busy ahead of open", waitingSeat+"begin 1 => busy\nbegin 2 => open")
	for _, of := range []struct {
		name string
		o    impl.Op
		want int
	}{
		{"bad ahead of busy", impl.Op{Kind: opBegin, Seat: 1, Level: 2}, rpBad},
		{"bad ahead of open", impl.Op{Kind: opBegin, Seat: 2, Level: 2}, rpBad},
		{"bad ahead of open", impl.Op{Kind: opBegin, Seat: 2, Level: -1}, rpBad},
		{"a right one", impl.Op{Kind: opBegin, Seat: 2, Level: 1}, rpOpen},
		{"bad ahead of begin", impl.Op{Kind: opBegin, Seat: 3, Level: 2}, rpBad},
		{"bad ahead of busy", impl.Op{Kind: opPut, Seat: 1, Key: intItem(1)}, rpBad},
		{"bad ahead of shut", impl.Op{Kind: opPut, Seat: 3, Key: intItem(1)}, rpBad},
		{"bad ahead of its own part", impl.Op{Kind: opPut, Seat: 2, Key: intItem(1)}, rpBad},
		{"bad ahead of its own part", impl.Op{Kind: opPut, Seat: 2, Key: intItem(5), Value: impl.Item{Kind: 4}}, rpBad},
		{"bad ahead of its own part", impl.Op{Kind: opGet, Seat: 2}, rpBad},
		{"bad ahead of its own part", impl.Op{Kind: opTotal, Seat: 2, Key: intItem(1)}, rpBad},
		{"busy", impl.Op{Kind: opCommit, Seat: 1}, rpBusy},
		{"a seat past the last", impl.Op{Kind: opCommit, Seat: 8}, rpBad},
		{"a seat below the first", impl.Op{Kind: opAbort, Seat: -1}, rpBad},
		{"a seat far away", impl.Op{Kind: opAbort, Seat: math.MaxInt}, rpBad},
		{"a kind above, as it should be", impl.Op{Kind: opCheckpoint, Seat: 1}, rpBad},
		{"a kind above, as it should be", impl.Op{Kind: opEvict, N: 0}, rpBad},
		{"a kind above, as it should be", impl.Op{Kind: opFuse, N: 5}, rpBad},
		{"a kind above, as it should be", impl.Op{Kind: opCrash, Keep: []bool{true}}, rpBad},
		{"no kind", impl.Op{Kind: 14, Seat: -7}, rpBad},
		{"no kind", impl.Op{Kind: -3, Seat: 77}, rpBad},
	} {
		ops := opsOf(t, waitingSeat)
		was := impl.LiveRun(ops)
		p := impl.LiveRun(append(ops, of.o))
		want := impl.Reply{Seat: of.o.Seat, Kind: of.o.Kind, Code: of.want}
		if len(p.Replies) != len(was.Replies)+1 || !sameReply(p.Replies[len(was.Replies)], want) {
			t.Errorf("%s: the replies are %v, want %v as the last", of.name, p.Replies, want)
		}
		if field := otherField(p.Db, was.Db); field != "" {
			t.Errorf("%s: %s was changed by what was refused", of.name, field)
		}
	}
}

// The numbers of a Db behind each op of a script: Next, Clock, Turns and Lsn, and which pages were imaged.
func TestNumbersBehindEachOp(t *testing.T) {
	steps := []struct {
		line                    string
		next, clock, turns, lsn int
		imaged                  []int
	}{
		{"vacuum", 1, 0, 0, 1, nil},
		{"begin 2", 2, 1, 0, 1, nil},
		{"order 1", 3, 2, 0, 1, nil},
		{"begin 1", 3, 2, 0, 1, nil},
		{"get 2 5", 3, 2, 0, 1, nil},
		{"get 1 5", 3, 2, 0, 1, nil},
		{"put 2 5 7", 3, 2, 0, 3, []int{0}},
		{"put 2 5 8", 3, 2, 0, 5, []int{0}},
		{"put 2 t40*k t40*v", 3, 2, 0, 6, []int{0}},
		{"put 2 t40*l t40*v", 3, 2, 0, 8, []int{0, 1}},
		{"delete 2 t40*l", 3, 2, 0, 9, []int{0, 1}},
		{"delete 2 6", 3, 2, 0, 9, []int{0, 1}},
		{"put 1 5 9", 3, 2, 1, 9, []int{0, 1}},
		{"get 1 5", 3, 2, 1, 9, []int{0, 1}},
		{"begin 0", 4, 3, 1, 9, []int{0, 1}},
		{"delete 0 5", 4, 3, 2, 9, []int{0, 1}},
		{"commit 2", 4, 6, 2, 10, []int{0, 1}},
		{"vacuum", 4, 6, 2, 12, []int{0, 1}},
		{"order 0", 5, 7, 2, 12, []int{0, 1}},
		{"commit 0", 5, 8, 2, 12, []int{0, 1}},
		{"begin 0", 6, 9, 2, 12, []int{0, 1}},
		{"delete 0 5", 6, 9, 2, 13, []int{0, 1}},
		{"abort 0", 6, 10, 2, 13, []int{0, 1}},
		{"abort 0", 6, 10, 2, 13, []int{0, 1}},
	}
	var script []string
	for i, step := range steps {
		script = append(script, step.line)
		ops := opsOf(t, strings.Join(script, "\n"))
		db := wantAsPlainly(t, "numbers", ops).Db
		name := fmt.Sprint("behind op ", i, ", ", step.line)
		wantNumbers(t, name, db, step.next, step.clock, step.turns, step.lsn)
		if !slices.Equal(db.Imaged, step.imaged) || len(db.Log) != step.lsn-1 {
			t.Errorf("%s: Imaged is %v, and there are %d records", name, db.Imaged, len(db.Log))
		}
	}
}

func TestBeginOpensTheSeat(t *testing.T) {
	for seat := range mostSeats {
		for level := range 2 {
			p := impl.LiveRun([]impl.Op{{Kind: opBegin, Seat: seat, Level: level}})
			if want := (impl.Reply{Seat: seat, Kind: opBegin, N: 1}); len(p.Replies) != 1 || !sameReply(p.Replies[0], want) {
				t.Errorf("seat %d: %v", seat, p.Replies)
			}
			for i, s := range p.Db.Seats {
				want := impl.Seat{}
				if i == seat {
					want = impl.Seat{Open: true, Level: level, Begun: 1, Snap: snapOf(1)}
				}
				wantSeat(t, fmt.Sprint("seat ", i), s, want)
			}
			want := tracksOf(active(1, 1))
			if !sameTracks(p.Db.Tracks, want[:level]) || !slices.Equal(p.Db.List, []int{0, 0}) || len(p.Db.Deeds) != 0 || len(p.Db.Log) != 0 {
				t.Errorf("Level %d: tracks %v, list %v", level, p.Db.Tracks, p.Db.List)
			}
		}
	}
}

// What else stands in an op of its kind is not kept.
func TestBeginKeepsNothingElseOfItsOp(t *testing.T) {
	p := impl.LiveRun([]impl.Op{{Kind: opBegin, Seat: 2, N: 9, Key: intItem(1), To: impl.Item{Kind: 7}, Value: textItem("a"), Keep: []bool{true}}})
	wantSeat(t, "begun", p.Db.Seats[2], impl.Seat{Open: true, Begun: 1, Snap: snapOf(1)})
}

func TestRunningAreAllThatAreOpen(t *testing.T) {
	p := wantPlay(t, "running", `
		begin 5 => done 1
		order 2 => done 2
		begin 7 => done 3
		begin 0 => done 4
		commit 2 => done 2
		begin 2 => done 5
		abort 5 => done
		begin 1 => done 6
		begin 3 => done 7
		begin 4 => done 8
		begin 5 => done 9
		begin 6 => done 10
		begin 6 => open
	`)
	for _, of := range []struct {
		seat, begun int
		snap        impl.Snap
	}{
		{7, 3, snapOf(3, 1, 2)},
		{0, 4, snapOf(4, 1, 2, 3)},
		{2, 6, snapOf(5, 1, 3, 4)},
		{1, 8, snapOf(6, 3, 4, 5)},
		{3, 9, snapOf(7, 3, 4, 5, 6)},
		{4, 10, snapOf(8, 3, 4, 5, 6, 7)},
		{5, 11, snapOf(9, 3, 4, 5, 6, 7, 8)},
		{6, 12, snapOf(10, 3, 4, 5, 6, 7, 8, 9)},
	} {
		wantSeat(t, fmt.Sprint("seat ", of.seat), p.Db.Seats[of.seat], impl.Seat{Open: true, Begun: of.begun, Snap: of.snap})
	}
	if want := []int{0, gone, done, 0, 0, 0, 0, 0, 0, 0, 0}; !slices.Equal(p.Db.List, want) {
		t.Errorf("the list is %v, want %v", p.Db.List, want)
	}
	wantNumbers(t, "running", p.Db, 11, 12, 0, 1)
}

// A transaction that waits runs, too.
func TestRunningAreThoseThatWaitToo(t *testing.T) {
	p := wantPlay(t, "one waits", waitingSeat+"begin 3 => done 4")
	wantSeat(t, "behind one that waits", p.Db.Seats[3], impl.Seat{Open: true, Begun: 4, Snap: snapOf(4, 1, 2, 3)})
}

// longOrdered is an old transaction of Level 1 in seat 0, and n others of it that ended behind its begin.
func longOrdered(n int) []impl.Op {
	ops := []impl.Op{{Kind: opBegin, Level: 1}}
	for range n {
		ops = append(ops, impl.Op{Kind: opBegin, Seat: 1, Level: 1}, impl.Op{Kind: opCommit, Seat: 1})
	}
	return ops
}

func TestBeginWithMaxTracks(t *testing.T) {
	order, begin := impl.Op{Kind: opBegin, Seat: 2, Level: 1}, impl.Op{Kind: opBegin, Seat: 2}
	for _, of := range []struct {
		name string
		n    int
		more []impl.Op
		want []int
	}{
		{"one less", 62, []impl.Op{order}, []int{rpDone}},
		{"one less, and one more", 62, []impl.Op{order, {Kind: opBegin, Seat: 3, Level: 1}}, []int{rpDone, rpFull}},
		{"MaxTracks", 63, []impl.Op{order, order, begin}, []int{rpFull, rpFull, rpDone}},
		{"Level 0", 63, []impl.Op{begin}, []int{rpDone}},
		{"open ahead of full", 63, []impl.Op{begin, order}, []int{rpDone, rpOpen}},
		{"bad ahead of full", 63, []impl.Op{{Kind: opBegin, Seat: 2, Level: 2}}, []int{rpBad}},
		{"full, and its seat stays shut", 63, []impl.Op{order, {Kind: opCommit, Seat: 2}}, []int{rpFull, rpShut}},
		{"the oldest ended", 63, []impl.Op{order, {Kind: opAbort}, order}, []int{rpFull, rpDone, rpDone}},
	} {
		ops := longOrdered(of.n)
		was := impl.LiveRun(ops)
		if len(was.Db.Tracks) != of.n+1 {
			t.Fatalf("%s: %d tracks", of.name, len(was.Db.Tracks))
		}
		p := wantAsPlainly(t, of.name, append(ops, of.more...))
		if got := codesOf(p)[len(was.Replies):]; !slices.Equal(got, of.want) {
			t.Errorf("%s: the codes are %v, want %v", of.name, got, of.want)
		}
	}
	was := impl.LiveRun(longOrdered(63))
	p := impl.LiveRun(append(longOrdered(63), order))
	if field := otherField(was.Db, p.Db); field != "" || p.Replies[len(p.Replies)-1].N != 0 {
		t.Errorf("%s was changed by a begin that was full: %v", field, p.Replies[len(p.Replies)-1])
	}
}

// One run's replies are the beginning of those of a longer one.
func TestRepliesComeInTheOrderOfTheOps(t *testing.T) {
	for i, d := range drawnKinds() {
		ops := drawOps(d, 5000+uint64(i))
		all := impl.LiveRun(ops).Replies
		for n := range len(ops) {
			p := impl.LiveRun(ops[:n]).Replies
			if len(p) < n || len(p) > len(all) || !slices.EqualFunc(p, all[:len(p)], sameReply) {
				t.Fatalf("kind %d: the replies to the first %d ops are not the first ones", i, n)
			}
		}
	}
}
