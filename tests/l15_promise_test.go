package tests

import (
	"fmt"
	"slices"
	"testing"

	"loop.example/g00252/impl"
)

// rightKindsOfScripts are those of drawnKinds, all of whose ops are OpOk.
func rightKindsOfScripts() []drawn {
	kinds := drawnKinds()
	for i := range kinds {
		kinds[i].wrong = false
	}
	keys, values := drawnKeys(), drawnValues()
	return append(kinds,
		drawn{n: 25, seats: 3, keys: keys[:2], values: values[:2], levels: []int{1}},
		drawn{n: 40, seats: 4, keys: keys[:3], values: values, levels: []int{0, 1}, spans: true},
		drawn{n: 60, seats: 6, keys: keys[:6], values: values, levels: []int{1}, spans: true, vacuum: true},
	)
}

func TestPromise15(t *testing.T) {
	reads, owns := 0, 0
	for i, d := range rightKindsOfScripts() {
		for seed := range uint64(120) {
			ops := drawOps(d, seed+7000*uint64(i+1))
			w := watch(t, fmt.Sprint("kind ", i, ", seed ", seed), ops, impl.LiveRun(ops))
			reads += w.reads
			for _, of := range w.lives {
				owns += oneIf(len(of.changed) > 0 && len(of.acts) > len(of.changed))
			}
		}
	}
	if reads < 10000 || owns < 3000 {
		t.Errorf("%d reads, %d transactions that wrote and read", reads, owns)
	}
}

func TestPromise16(t *testing.T) {
	waits, alone, beside := 0, 0, 0
	for i, d := range rightKindsOfScripts() {
		for seed := range uint64(120) {
			ops := drawOps(d, seed+9000*uint64(i+1))
			w := watch(t, fmt.Sprint("kind ", i, ", seed ", seed), ops, impl.LiveRun(ops))
			w.wantNoTwoWroteOneKey()
			waits += w.waits
			for _, of := range w.lives {
				alone += oneIf(of.isAlone && of.isDone)
				beside += oneIf(!of.isAlone && of.isDone && len(of.changed) > 0)
			}
		}
	}
	if waits < 2000 || alone < 100 || beside < 2000 {
		t.Errorf("%d waits, %d alone, %d beside others", waits, alone, beside)
	}
}

// A transaction that is alone is committed, whatever came ahead of it and whatever it does.
func TestWhoIsAloneIsCommitted(t *testing.T) {
	count := 0
	for i, d := range rightKindsOfScripts() {
		d.n = 40
		for seed := range uint64(40) {
			ahead := drawOps(d, seed+11*uint64(i))
			for range 3 {
				for seat := range d.seats {
					ahead = append(ahead, impl.Op{Kind: opAbort, Seat: seat})
				}
			}
			one := d
			one.seats, one.n = 1, 60
			ahead = append(ahead, drawOps(one, seed+13*uint64(i))...)
			p := impl.LiveRun(ahead)
			w := watch(t, fmt.Sprint("kind ", i, ", seed ", seed), ahead, p)
			for _, of := range w.lives {
				count += oneIf(of.isAlone && of.isDone)
			}
		}
	}
	if count < 1000 {
		t.Errorf("%d alone", count)
	}
}

// orderedOps are drawn ops in which seat 0 is of Level 0 and only reads, seat 1 is of Level 0 and is never committed, and
// all others are of Level 1.
func orderedOps(d drawn, seed uint64) []impl.Op {
	ops := drawOps(d, seed)
	for i := range ops {
		o := &ops[i]
		o.Level = oneIf(o.Seat > 1)
		if o.Seat == 0 && (o.Kind == opPut || o.Kind == opDelete) {
			o.Kind = opGet
		}
		if o.Seat == 1 && o.Kind == opCommit {
			o.Kind = opAbort
		}
	}
	return ops
}

func TestPromise17(t *testing.T) {
	deeds, turned, serial := 0, 0, 0
	keys, values := drawnKeys(), drawnValues()
	for i, d := range []drawn{
		{n: 40, seats: 4, keys: keys[:2], values: values, levels: []int{1}},
		{n: 60, seats: 5, keys: keys[:3], values: values, levels: []int{1}, spans: true},
		{n: 120, seats: 6, keys: keys[:4], values: values, levels: []int{1}, spans: true, vacuum: true},
		{n: mostOps, seats: 8, keys: keys, values: values, levels: []int{1}, spans: true, vacuum: true},
		{n: mostOps, seats: 4, keys: keys, values: values, levels: []int{1}},
		{n: mostOps, seats: 8, keys: keys[:3], values: values, levels: []int{1}},
	} {
		for seed := range uint64(250) {
			for turn, ops := range [][]impl.Op{drawOps(d, seed+500*uint64(i)), orderedOps(d, seed+500*uint64(i))} {
				p := impl.LiveRun(ops)
				w := watch(t, fmt.Sprint("kind ", i, ", seed ", seed, ", turn ", turn), ops, p)
				if w.hasPlainWriter() {
					t.Fatalf("kind %d: one of Level 0 that wrote was committed", i)
				}
				w.wantOrder(p)
				deeds += len(p.Db.Deeds)
				order, _ := impl.GraphOrder(p.Db.Deeds)
				turned += oneIf(!slices.IsSorted(order))
				for _, code := range codesOf(p) {
					serial += oneIf(code == rpSerial)
				}
			}
		}
	}
	if deeds < 15000 || turned < 100 || serial < 500 {
		t.Errorf("%d deeds, %d orders that are not that of the ends, %d given up for it", deeds, turned, serial)
	}
}

// All ways in which two transactions of Level 1 can do two ops each over two keys, and commit.
func TestPromise17OfAllShortScripts(t *testing.T) {
	acts := []impl.Op{
		{Kind: opGet, Key: intItem(1)}, {Kind: opGet, Key: intItem(2)},
		{Kind: opPut, Key: intItem(1), Value: intItem(5)}, {Kind: opPut, Key: intItem(2), Value: intItem(5)},
		{Kind: opDelete, Key: intItem(1)}, {Kind: opScan, Key: intItem(1), To: intItem(2), N: 9},
	}
	n := len(acts)
	for at := range n * n * n * n {
		own := [2][]impl.Op{{acts[at%n], acts[at/n%n], {Kind: opCommit}}, {acts[at/n/n%n], acts[at/n/n/n], {Kind: opCommit}}}
		for mix := range 1 << 6 {
			ops := []impl.Op{{Kind: opBegin, Level: 1}, {Kind: opPut, Key: intItem(1), Value: intItem(4)}, {Kind: opCommit}, {Kind: opBegin, Level: 1}, {Kind: opBegin, Seat: 1, Level: 1}}
			var next [2]int
			for bit := range 6 {
				seat := mix >> bit & 1
				if next[seat] < 3 {
					o := own[seat][next[seat]]
					o.Seat = seat
					ops = append(ops, o)
					next[seat]++
				}
			}
			if next != [2]int{3, 3} {
				continue
			}
			p := impl.LiveRun(ops)
			w := watch(t, fmt.Sprint("acts ", at, ", mix ", mix), ops, p)
			w.wantOrder(p)
			w.wantNoTwoWroteOneKey()
		}
	}
}

// withoutVacuums are the ops without clean-ups, and the replies without those to them.
func withoutVacuums(ops []impl.Op, replies []impl.Reply) ([]impl.Op, []impl.Reply) {
	ops, replies = slices.Clone(ops), slices.Clone(replies)
	ops = slices.DeleteFunc(ops, func(o impl.Op) bool { return o.Kind == opVacuum })
	return ops, slices.DeleteFunc(replies, func(r impl.Reply) bool { return r.Kind == opVacuum })
}

func TestPromise18(t *testing.T) {
	cleared := 0
	for i, d := range rightKindsOfScripts() {
		d.vacuum = true
		for seed := range uint64(80) {
			name := fmt.Sprint("kind ", i, ", seed ", seed)
			ops := drawOps(d, seed+1300*uint64(i+1))
			p := impl.LiveRun(ops)
			wantTreeOfRows(t, name, p.Db)
			fewer, want := withoutVacuums(ops, p.Replies)
			without := impl.LiveRun(fewer)
			if hasFull(p) || hasFull(without) {
				continue
			}
			if !slices.EqualFunc(without.Replies, want, sameReply) {
				t.Fatalf("%s: clean-ups change replies", name)
			}
			for _, r := range p.Replies {
				cleared += oneIf(r.Kind == opVacuum && r.N > 0)
			}
			a, b := impl.Committed(p.Db.Heap, p.Db.List), impl.Committed(without.Db.Heap, without.Db.List)
			if !slices.EqualFunc(a, b, samePair) || !slices.Equal(p.Db.List, without.Db.List) || !sameTracks(p.Db.Tracks, without.Db.Tracks) || !slices.EqualFunc(p.Db.Deeds, without.Db.Deeds, sameDeed) {
				t.Fatalf("%s: clean-ups change what is committed", name)
			}
		}
	}
	if cleared < 300 {
		t.Errorf("%d clean-ups cleared something", cleared)
	}
}

// A clean-up behind each op changes no reply either, and leaves the tree with just the places of all rows.
func TestPromise18WithACleanUpBehindEachOp(t *testing.T) {
	for i, d := range rightKindsOfScripts() {
		d.n = min(d.n, mostOps/2)
		for seed := range uint64(25) {
			var more []impl.Op
			ops, _ := withoutVacuums(drawOps(d, seed+1700*uint64(i+1)), nil)
			for _, o := range ops {
				more = append(more, o, impl.Op{Kind: opVacuum, Seat: int(seed)})
			}
			p, plain := impl.LiveRun(more), impl.LiveRun(ops)
			_, got := withoutVacuums(nil, p.Replies)
			if !hasFull(p) && !hasFull(plain) && !slices.EqualFunc(got, plain.Replies, sameReply) {
				t.Fatalf("kind %d, seed %d: clean-ups change replies", i, seed)
			}
			wantTreeOfRows(t, fmt.Sprint("kind ", i, ", seed ", seed), p.Db)
		}
	}
}

// What is committed is what the transactions that were told so wrote, one behind the other by their ends.
func TestCommittedIsWhatWasTold(t *testing.T) {
	for i, d := range rightKindsOfScripts() {
		for seed := range uint64(40) {
			ops := drawOps(d, seed+19*uint64(i))
			p := impl.LiveRun(ops)
			w := watch(t, fmt.Sprint("kind ", i, ", seed ", seed), ops, p)
			want := w.committed.in(risingKeys()[0], risingKeys()[len(risingKeys())-1])
			if got := impl.Committed(p.Db.Heap, p.Db.List); !slices.EqualFunc(got, want, samePair) {
				t.Fatalf("kind %d, seed %d: committed is %v, want %v", i, seed, got, want)
			}
			for _, of := range w.lives {
				status := running
				if of.ended > 0 {
					status = gone - oneIf(of.isDone)
				}
				if p.Db.List[of.xid] != status {
					t.Fatalf("kind %d, seed %d: transaction %d has the status %d, want %d", i, seed, of.xid, p.Db.List[of.xid], status)
				}
			}
			wantTreeOfRows(t, "committed", p.Db)
		}
	}
}

// However often it is asked, and whatever was asked ahead of it, one script gives one answer.
func TestRunsAreTheSameEachTime(t *testing.T) {
	for i, d := range drawnKinds() {
		for seed := range uint64(4) {
			ops := drawOps(d, seed+23*uint64(i))
			first := impl.LiveRun(ops)
			for range 12 {
				impl.LiveRun(ops[:len(ops)/2])
				if again := impl.LiveRun(ops); !samePlay(first, again) {
					t.Fatalf("kind %d, seed %d: answers of one script differ", i, seed)
				}
			}
			pairs := impl.Committed(first.Db.Heap, first.Db.List)
			for range 12 {
				if again := impl.Committed(first.Db.Heap, first.Db.List); !slices.EqualFunc(pairs, again, samePair) {
					t.Fatalf("kind %d, seed %d: what is committed differs", i, seed)
				}
			}
		}
	}
}
