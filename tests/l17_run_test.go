package tests

import (
	"fmt"
	"math"
	"slices"
	"strings"
	"testing"

	"loop.example/g00252/impl"
)

func TestStoresOfNoOps(t *testing.T) {
	opened, _ := impl.StoreOpen(impl.DiskNew(diskSize))
	for _, ops := range [][]impl.Op{nil, {}, make([]impl.Op, 0, 5)} {
		run := impl.StoreRun(ops)
		if len(run.Replies) != 0 {
			t.Errorf("replies to no op: %v", run.Replies)
		}
		wantStore(t, "no ops", run.Store, opened)
	}
}

func TestStoresUpToMaxOps(t *testing.T) {
	for _, o := range []impl.Op{{Kind: opVacuum}, {Kind: opCheckpoint}, {Kind: opCrash}, {Kind: opEvict}, {Kind: opFuse, N: 9000}, {}} {
		for _, n := range []int{1, 2, mostOps - 1, mostOps} {
			if run := wantStoredAsPlainly(t, fmt.Sprint(n, " of ", o), slices.Repeat([]impl.Op{o}, n)); len(run.Replies) != n || run.Store.Dead {
				t.Errorf("%d of %v: %d replies, Dead %t", n, o, len(run.Replies), run.Store.Dead)
			}
		}
		for _, n := range []int{mostOps + 1, mostOps + 2, 256, 256 + mostOps, 100000} {
			if run := impl.StoreRun(slices.Repeat([]impl.Op{o}, n)); !sameRun(run, impl.Run{}) || len(run.Store.Disk.Sectors) != 0 {
				t.Errorf("%d of %v: %d replies, %v", n, o, len(run.Replies), run.Store.Control)
			}
		}
	}
	run := impl.StoreRun(slices.Repeat([]impl.Op{{Kind: opCrash}}, mostOps))
	if c := run.Store.Control; c != (impl.Control{Seq: 201, Area: 0, Lsn: 201001, Next: 1, Pages: 0}) {
		t.Errorf("behind %d crashes: %v", mostOps, c)
	}
}

// Without a disk that stops, and with room, sessions are told over a store what they are told in memory.
func TestStoresReplyAsSessionsDo(t *testing.T) {
	same, full := 0, 0
	for i, d := range rightKindsOfScripts() {
		for seed := range uint64(60) {
			ops := drawOps(d, seed+41*uint64(i))
			run, p := impl.StoreRun(ops), impl.LiveRun(ops)
			if at := slices.IndexFunc(run.Replies, func(r impl.Reply) bool { return r.Code == rpFull }); at >= 0 {
				full++
				continue
			}
			same++
			if !slices.EqualFunc(run.Replies, p.Replies, sameReply) {
				t.Fatalf("kind %d, seed %d: other replies over a store", i, seed)
			}
			want := p.Db
			want.Room, want.Lsn = run.Store.Db.Room, run.Store.Db.Lsn
			want.Log, want.Heap = run.Store.Db.Log, run.Store.Db.Heap
			if field := otherField(run.Store.Db, want); field != "" || len(run.Store.Db.Log) != len(p.Db.Log) || run.Store.Db.Lsn != p.Db.Lsn+lsnGap {
				t.Fatalf("kind %d, seed %d: another %s over a store", i, seed, field)
			}
		}
	}
	if same < 300 || full < 30 {
		t.Errorf("%d scripts had room, %d had not", same, full)
	}
}

// badOps are not OpOk, one of each kind and some of none.
func badOps() []impl.Op {
	return []impl.Op{
		{}, {Kind: 14}, {Kind: -1}, {Kind: math.MaxInt},
		{Kind: opBegin, Level: 2}, {Kind: opBegin, Seat: 8}, {Kind: opGet}, {Kind: opPut, Key: intItem(1)}, {Kind: opDelete, Seat: -1, Key: intItem(1)},
		{Kind: opScan, Key: intItem(1), To: intItem(2), N: 51}, {Kind: opTotal, Key: intItem(1)}, {Kind: opCommit, Seat: 8}, {Kind: opAbort, Seat: -1},
		{Kind: opEvict, N: -1}, {Kind: opEvict, N: 16}, {Kind: opFuse, N: -1}, {Kind: opFuse, N: math.MinInt}, {Kind: opCrash, Keep: make([]bool, 601)},
	}
}

// rightOps are OpOk, one of each kind; their seats are as they may be.
func rightOps() []impl.Op {
	return []impl.Op{
		{Kind: opBegin, Seat: 3}, {Kind: opGet, Seat: 7, Key: intItem(1)}, {Kind: opPut, Key: intItem(1), Value: intItem(2)}, {Kind: opDelete, Key: intItem(1)},
		{Kind: opScan, Key: intItem(1), To: intItem(2), N: 50}, {Kind: opTotal, Key: intItem(1), To: intItem(2)}, {Kind: opCommit, Seat: 1}, {Kind: opAbort, Seat: 2},
		{Kind: opVacuum, Seat: -4}, {Kind: opCheckpoint, Seat: 99}, {Kind: opEvict, Seat: math.MaxInt, N: 15}, {Kind: opEvict}, {Kind: opFuse, Seat: math.MinInt, N: 5}, {Kind: opFuse},
	}
}

func TestBadOpsOverStores(t *testing.T) {
	for _, script := range []string{"", "begin 0\nput 0 5 7", "begin 0\nput 0 5 7\ncommit 0\nevict 0", "fuse 0\ncheckpoint", "begin 0\nput 0 5 7\nfuse 3\ncommit 0"} {
		ops := storeOps(t, script)
		before := impl.StoreRun(ops)
		for _, o := range badOps() {
			run := impl.StoreRun(append(slices.Clone(ops), o))
			name := fmt.Sprint(script, ", then ", o.Kind)
			wantStore(t, name, run.Store, before.Store)
			if r := run.Replies[len(run.Replies)-1]; !sameReply(r, impl.Reply{Seat: o.Seat, Kind: o.Kind, Code: rpBad}) {
				t.Errorf("%s: the reply is %q", name, wordsOf(r))
			}
		}
	}
}

// A dead store stays what it is, whatever it is asked, up to a crash.
func TestDeadStores(t *testing.T) {
	for _, script := range []string{"fuse 0\ncheckpoint", "fuse 4\ncheckpoint", "begin 0\nbegin 1\nput 0 5 7\nfuse 3\ncommit 0", "begin 0\nput 0 5 7\nfuse 8\nevict 0"} {
		ops := storeOps(t, script)
		before := impl.StoreRun(ops)
		s := before.Store
		if !s.Dead || !s.Disk.Down || s.Safe != 0 || otherField(s.Db, impl.Db{}) != "" || s.Control.Seq != 1 || before.Replies[len(before.Replies)-1].Code != rpDown {
			t.Fatalf("%s: the store is not dead: %v", script, s.Control)
		}
		for _, o := range rightOps() {
			run := impl.StoreRun(append(slices.Clone(ops), o, o))
			name := fmt.Sprint(script, ", then ", opNames()[o.Kind])
			wantStore(t, name, run.Store, s)
			for _, r := range run.Replies[len(ops):] {
				if !sameReply(r, impl.Reply{Seat: o.Seat, Kind: o.Kind, Code: rpDown}) {
					t.Errorf("%s: the reply is %q", name, wordsOf(r))
				}
			}
		}
		for _, keep := range [][]bool{nil, keepOf("all"), make([]bool, mostWaiting), {true, false, true}} {
			o := impl.Op{Kind: opCrash, Seat: -7, Keep: keep}
			run := impl.StoreRun(append(slices.Clone(ops), o))
			if r := run.Replies[len(run.Replies)-1]; !sameReply(r, impl.Reply{Seat: -7, Kind: opCrash}) {
				t.Errorf("%s: the crash is told %q", script, wordsOf(r))
			}
			opened, _ := impl.StoreOpen(impl.DiskCrash(s.Disk, keep))
			wantStore(t, script+", behind a crash", run.Store, opened)
		}
	}
}

func TestEachRuleAheadOfTheNext(t *testing.T) {
	wantRun(t, "bad ahead of a crash, of being dead, of all", "fuse 0 => done\ncheckpoint => down\nscan 0 5 6 51 => bad\nget 0 5 => down\ncrash => done\nget 0 5 => shut")
	wantRun(t, "a crash ahead of being dead", "fuse 1 => done\ncheckpoint => down\ncrash all => done\ncrash => done\nbegin 0 => done 1\ncrash => done 1")
	wantRun(t, "dead ahead of fuses, checkpoints, evictions", "fuse 1 => done\ncheckpoint => down\nfuse 7 => down\ncheckpoint => down\nevict 15 => down\nvacuum => down\nbegin 0 => down\ncommit 5 => down")
	wantRun(t, "a page that is not there ahead of flushing", "begin 0 => done 1\nput 0 5 7 => done\nfuse 0 => done\nevict 1 => none\nevict 15 => none\nevict 0 => down")
	wantRun(t, "a fuse in place of another", "fuse 0 => done\nfuse 3 => done\nfuse 5 => done\ncheckpoint => done\ncheckpoint => down")
	wantRun(t, "all others", "fuse 0 => done\nbegin 0 => done 1\nput 0 5 7 => done\nget 0 5 => done is 7\nvacuum => done\nbegin 1 => done 2\nput 1 5 8 => wait 1\nget 1 5 => busy\nabort 0 => done; 1 put done\nbegin 1 => open\ncommit 0 => shut\ncommit 1 => down")
}

func TestFuses(t *testing.T) {
	for _, n := range []int{0, 1, 7, 600, 1 << 32, math.MaxInt} {
		run := impl.StoreRun([]impl.Op{{Kind: opFuse, Seat: 3, N: n}})
		opened, _ := impl.StoreOpen(blankDisk())
		opened.Disk.Fuse = n
		wantStore(t, fmt.Sprint("fuse ", n), run.Store, opened)
		if !sameReply(run.Replies[0], impl.Reply{Seat: 3, Kind: opFuse}) {
			t.Errorf("fuse %d: %v", n, run.Replies)
		}
	}
	s := behind(t, "fuse 20\nbegin 0\nput 0 5 7\ncommit 0\nget 0 5\nevict 0")
	if s.Disk.Fuse != 20-7-4 || s.Dead {
		t.Errorf("a fuse burns down to %d", s.Disk.Fuse)
	}
	if s := behind(t, "fuse 20\ncrash"); s.Disk.Fuse != -1 {
		t.Errorf("behind a crash the fuse is %d", s.Disk.Fuse)
	}
}

func TestCrashesTellHowManySeatsWereOpen(t *testing.T) {
	for n := range mostSeats + 1 {
		script := ""
		for seat := range n {
			script += fmt.Sprintf("begin %d\n", seat)
		}
		for keep, script := range map[string]string{"none": script, "all": script, "101": script + "checkpoint\n"} {
			ops := storeOps(t, script+"crash "+keep+"\ncrash")
			run := impl.StoreRun(ops)
			told := run.Replies[len(ops)-2:]
			if told[0].N != n || told[0].Code != rpDone || told[1].N != 0 || told[1].Code != rpDone {
				t.Errorf("%d seats are Open: the crashes are told %q, %q", n, wordsOf(told[0]), wordsOf(told[1]))
			}
		}
	}
	wantRun(t, "seats that wait, and one that was shut", "begin 0 => done 1\nbegin 1 => done 2\nbegin 2 => done 3\nput 0 5 7 => done\nput 1 5 8 => wait 1\nabort 2 => done\ncrash => done 2\nput 1 5 8 => shut\ncrash => done")
	wantRun(t, "of a dead store", "begin 0 => done 1\nbegin 1 => done 2\nput 0 5 7 => done\nfuse 2 => done\ncommit 0 => down\ncrash => done\ncrash => done")
}

// Behind a crash all is fresh but what is committed, and numbers that nobody needs are given again.
func TestBehindACrash(t *testing.T) {
	s := wantRun(t, "a crash", `
		order 0 => done 1
		put 0 5 7 => done
		order 1 => done 2
		get 1 6 => none
		put 1 5 8 => wait 1
		commit 0 => done 1; 1 put conflict
		order 2 => done 3
		get 2 5 => done is 7
		put 2 6 9 => done
		crash => done 1
		get 2 6 => shut
		order 2 => done 2
		get 2 5 => done is 7
		get 2 6 => none
	`).Store
	wantCommittedIn(t, "a crash", s, "5=7")
	if s.Db.Clock != 1 || s.Db.Turns != 0 || len(s.Db.Deeds) != 0 || len(s.Db.Tracks) != 1 || s.Db.Next != 3 || s.Db.Lsn != 2004 || s.Db.Room != logRoom {
		t.Errorf("a crash: Clock %d, Turns %d, %d deeds, %d tracks, Next %d, Lsn %d, Room %d", s.Db.Clock, s.Db.Turns, len(s.Db.Deeds), len(s.Db.Tracks), s.Db.Next, s.Db.Lsn, s.Db.Room)
	}
	s = wantRun(t, "a number that has written", `
		begin 0 => done 1
		begin 1 => done 2
		put 1 5 7 => done
		begin 2 => done 3
		put 2 6 8 => done
		evict 0 => done
		crash => done 3
		begin 0 => done 4
		get 0 5 => none
		put 0 5 9 => done
		commit 0 => done 4
		crash => done
		begin 0 => done 5
		scan 0 1 9 9 => done 1 5=9
		vacuum => done 2
	`).Store
	wantCommittedIn(t, "a number that has written", s, "5=9")
	wantRun(t, "one that ran at a checkpoint", `
		begin 0 => done 1
		put 0 5 7 => done
		begin 1 => done 2
		checkpoint => done
		put 0 6 8 => done
		commit 0 => done 1
		crash => done 1
		begin 0 => done 3
		scan 0 1 9 9 => done 2 5=7 6=8
		checkpoint => done
		crash all => done 1
		begin 0 => done 4
		total 0 1 9 => done
		scan 0 1 9 9 => done 2 5=7 6=8
	`)
}

func wantCommittedIn(t *testing.T, name string, s impl.Store, want string) {
	t.Helper()
	if got := committedOf(s.Db); got != want || s.Dead {
		t.Errorf("%s: committed is %q, want %q, Dead %t", name, got, want, s.Dead)
	}
}

// A commit that the disk ended at each of its calls, with every Keep: it is there just when all of it is.
func TestACommitThatWasCutWithEveryKeep(t *testing.T) {
	for fuse := range 8 {
		for _, keep := range everyKeep(min(fuse, 6), uint64(fuse)) {
			ops := storeOps(t, fmt.Sprintf("begin 0\nput 0 5 7\nfuse %d\ncommit 0\ncrash\nbegin 0\nget 0 5", fuse))
			ops[4].Keep = keep
			run := impl.StoreRun(ops)
			kept := 0
			for i := range min(fuse, 6) {
				kept += oneIf(i < len(keep) && keep[i])
			}
			want := []int{rpDone, rpDone, rpDone, rpDown, rpDone, rpDone, rpNone}
			if kept == 6 {
				want[6] = rpDone
			}
			if fuse == 7 {
				want[3], want[6] = rpDone, rpDone
			}
			if got := codesOf(impl.Play{Replies: run.Replies}); !slices.Equal(got, want) {
				t.Errorf("fuse %d, %s: the codes are %v, want %v", fuse, nameOfKeep(keep), got, want)
			}
		}
	}
}

// Of a commit that the disk ends there is one reply, although others would have been waked.
func TestACommitThatIsEndedWakesNobody(t *testing.T) {
	const script = `
		begin 3 => done 1
		begin 1 => done 2
		begin 2 => done 3
		put 1 6 60 => done
		put 3 5 50 => done
		put 1 5 51 => wait 1
		put 2 6 61 => wait 2
	`
	run := wantRun(t, "well", script+"commit 3 => done 1; 1 put conflict; 2 put done\n")
	s := run.Store
	if last := s.Db.Log[len(s.Db.Log)-1]; last.Kind != impl.RecPut || s.Safe != len(plainLog(s.Db.Log)) || len(s.Disk.Waiting) != 0 {
		t.Errorf("well: Safe %d, the last record is %v", s.Safe, last)
	}
	calls := len(logCalls(s.Control, s.Db.Log, 0))
	for fuse := range calls {
		run := wantRun(t, fmt.Sprint("fuse ", fuse), script+fmt.Sprintf("fuse %d => done\ncommit 3 => down\nput 1 5 1 => down\nget 2 6 => down", fuse))
		if !run.Store.Dead || len(run.Store.Disk.Waiting) != min(fuse, calls-1) {
			t.Errorf("fuse %d: Dead %t, %d writes wait", fuse, run.Store.Dead, len(run.Store.Disk.Waiting))
		}
	}
	wantRun(t, "just long enough", script+fmt.Sprintf("fuse %d => done\ncommit 3 => done 1; 1 put conflict; 2 put done\nget 2 6 => done is 61\ncommit 2 => down", calls))
	wantRun(t, "an abort asks nothing of the disk", script+"fuse 0 => done\nabort 3 => done; 1 put done\ncommit 1 => down")
	wantRun(t, "who is given up neither", script+"fuse 0 => done\nput 3 6 1 => deadlock; 1 put done")
}

// roomLeft is a script of one transaction, in seat 0, behind which the log has just so many bytes of room left.
func roomLeft(t *testing.T, left int) []impl.Op {
	t.Helper()
	ops := []impl.Op{{Kind: opBegin}}
	keys := manyLongKeys()
	over := func() int { return impl.StoreRun(ops).Store.Db.Room - left }
	rows := 0
	for ; over() >= 486; rows++ {
		ops = append(ops, impl.Op{Kind: opPut, Key: keys[rows], Value: longText("v")})
	}
	for i := 0; over() > 166; i++ {
		ops = append(ops, impl.Op{Kind: opPut, Key: intItem(i), Value: textItem(strings.Repeat("w", 32))})
	}
	small := (over() - 39) % 19
	ops = append(ops, impl.Op{Kind: opPut, Key: intItem(-1), Value: textItem(strings.Repeat("x", small))})
	for i := 0; over() > 0 && i < rows; i++ {
		ops = append(ops, impl.Op{Kind: opDelete, Key: keys[i]})
	}
	if over() != 0 {
		t.Fatalf("%d bytes too many are left", over())
	}
	return ops
}

func TestRoomIsMetExactly(t *testing.T) {
	del := impl.Op{Kind: opDelete, Key: intItem(-1)}
	commit := impl.Op{Kind: opCommit}
	other := impl.Op{Kind: opPut, Key: longText("q"), Value: longText("q")}
	over := impl.Op{Kind: opPut, Key: intItem(-1), Value: textItem("")}
	for _, of := range []struct {
		name string
		o    impl.Op
		need int
	}{
		{"a commit", commit, 19}, {"a delete", del, 19}, {"a put into a new page", other, 275 + 19 + 92}, {"a put over a row", over, 19 + 19 + 20},
	} {
		for _, by := range []int{-19, -2, -1, 0, 1, 2} {
			if of.need+by < 0 {
				continue
			}
			ops := append(roomLeft(t, of.need+by), of.o)
			name := fmt.Sprint(of.name, ", with ", of.need+by, " bytes of room")
			run := wantStoredAsPlainly(t, name, ops)
			code, room := rpFull, of.need+by
			if by >= 0 {
				code, room = rpDone, by
			}
			if r := run.Replies[len(run.Replies)-1]; r.Code != code || run.Store.Db.Room != room || run.Store.Dead {
				t.Errorf("%s: %q, and then %d", name, wordsOf(r), run.Store.Db.Room)
			}
			if by < 0 && (run.Store.Db.List[1] != gone || len(run.Store.Disk.Waiting) > 0 || run.Store.Safe != 0) {
				t.Errorf("%s: it is not given up, or was flushed", name)
			}
		}
	}
}

// A log that is full to the last byte comes to the disk, and back.
func TestALogThatIsFull(t *testing.T) {
	ops := append(roomLeft(t, 19), impl.Op{Kind: opCommit})
	s := impl.StoreRun(ops).Store
	if s.Safe != logRoom || s.Db.Room != 0 {
		t.Fatalf("Safe %d, Room %d", s.Safe, s.Db.Room)
	}
	wantSectors(t, "full", s.Disk, logAt, plainLogSectors(1, plainLog(s.Db.Log)))
	wantSectors(t, "full", s.Disk, logAt+64, make([]byte, 64))
	wantCalls(t, "full", ops, logCalls(s.Control, s.Db.Log, 0))
	more := append(slices.Clone(ops), storeOps(t, "begin 1\nget 1 -1\ncommit 1\nvacuum\nevict 0\nbegin 1\ndelete 1 -1")...)
	run := wantStoredAsPlainly(t, "full, and more", more)
	got := codesOf(impl.Play{Replies: run.Replies[len(ops):]})
	if !slices.Equal(got, []int{rpDone, rpDone, rpDone, rpFull, rpDone, rpDone, rpFull}) {
		t.Errorf("full, and more: the codes are %v", got)
	}
	for _, last := range []string{"crash", "crash all", "checkpoint"} {
		run := wantStoredAsPlainly(t, "full, then "+last, append(slices.Clone(ops), storeOps(t, last+"\nbegin 1\nget 1 -1\nvacuum\ncommit 1\nbegin 1\nvacuum\ndelete 1 -1\ncommit 1")...))
		got := codesOf(impl.Play{Replies: run.Replies[len(ops):]})
		if !slices.Equal(got, []int{rpDone, rpDone, rpDone, rpDone, rpDone, rpDone, rpDone, rpDone, rpDone}) {
			t.Errorf("full, then %s: the codes are %v", last, got)
		}
	}
}

// What has no room is refused as a whole, with chapter 15's reasons ahead of it, and room comes back by a checkpoint.
func TestRoomByTheReasonsOfChapter15(t *testing.T) {
	ahead := roomLeft(t, 10)
	told := func(script string) string {
		t.Helper()
		ops := append(slices.Clone(ahead), storeOps(t, script)...)
		run := wantStoredAsPlainly(t, script, ops)
		var words []string
		for _, r := range run.Replies[len(ahead):] {
			words = append(words, nameOf(codeNames(), r.Code))
		}
		return strings.Join(words, " ")
	}
	for script, want := range map[string]string{
		"begin 1\nput 1 -1 5":                                    "done wait",
		"begin 1\nput 1 -1 5\ncommit 0":                          "done wait full full",
		"begin 1\nput 1 -1 5\nabort 0":                           "done wait done full",
		"begin 1\nput 1 99 5\nput 1 99 5\nbegin 1":               "done full shut done",
		"order 1\nput 1 99 5\norder 1\ndelete 1 99\ncommit 1":    "done full done none done",
		"order 1\nget 1 -1\ncommit 1\nabort 0\nvacuum":           "done none done done full",
		"checkpoint\nput 0 99 5\ncommit 0\nbegin 0\nget 0 99":    "done done done done done",
		"commit 0\ncommit 0\nbegin 0\nget 0 -1\nvacuum\nvacuum":  "full shut done none full full",
		"commit 0\ncheckpoint\nvacuum\ncrash\nvacuum":            "full done done done done",
		"order 1\norder 2\nget 1 7\nget 2 8\nput 2 7 1\nvacuum":  "done done none none full done",
		"begin 1\nput 1 -1 5\nbegin 2\nput 2 -1 5\ncommit 0":     "done wait done wait full full full",
		"begin 1\nfuse 0\nput 1 99 5\ncommit 0\nbegin 0\ncrash":  "done done full full done done",
		"evict 0\nfuse 0\ncommit 0\nbegin 0\nevict 0\ncrash all": "done done full done down done",
	} {
		if got := told(script); got != want {
			t.Errorf("%s: the codes are %s, want %s", script, got, want)
		}
	}
}
