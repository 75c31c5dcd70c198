package tests

import (
	"bytes"
	"fmt"
	"slices"
	"strings"
	"testing"

	"loop.example/g00252/impl"
)

// diskCall is a write to a sector; a sync, where it has no data.
type diskCall struct {
	at   int
	data []byte
}

// writesOf are the calls by which bytes come into sectors that rise, the last one filled with bytes 0.
func writesOf(at int, b []byte) []diskCall {
	var calls []diskCall
	for part := range slices.Chunk(b, sectorSize) {
		calls = append(calls, diskCall{at + len(calls), plainPadded(part, sectorSize)})
	}
	return calls
}

// logCalls are the calls by which what a log has behind its first safe bytes comes to the disk.
func logCalls(c impl.Control, log []impl.Record, safe int) []diskCall {
	var calls []diskCall
	for i, part := range slices.Collect(slices.Chunk(plainLog(log), logBody)) {
		if (i+1)*logBody > safe {
			calls = append(calls, diskCall{logOf(c.Area) + i, plainLogSector(c.Seq, len(part), part)})
		}
	}
	return append(calls, diskCall{})
}

// downCalls are the calls by which pages, statuses and a control are written down.
func downCalls(next impl.Control, list []int, pages []int, h impl.Heap) []diskCall {
	var calls []diskCall
	for _, page := range pages {
		calls = append(calls, writesOf(pageOf(page), plainPage(h.Pages[page]))...)
	}
	calls = append(calls, writesOf(statusesAt(next.Area), plainPadded(plainStatusBytes(list), 128))...)
	return append(calls, diskCall{}, diskCall{next.Seq % 2, plainControl(next)}, diskCall{})
}

// calledDisk is a disk behind these calls.
func calledDisk(d impl.Disk, calls []diskCall) impl.Disk {
	d = cloneDisk(d)
	for _, c := range calls {
		if c.data != nil {
			d.Waiting = append(d.Waiting, impl.Write{At: c.at, Data: c.data})
			continue
		}
		for _, w := range d.Waiting {
			d.Sectors[w.At] = w.Data
		}
		d.Waiting = nil
	}
	return d
}

// wantCalls asks which calls to the disk the last op of a script makes: by a fuse that ends it at each of them, by one
// that is just long enough, and by longer ones.
func wantCalls(t *testing.T, name string, ops []impl.Op, calls []diskCall) impl.Store {
	t.Helper()
	ahead, last := ops[:len(ops)-1], ops[len(ops)-1]
	before, whole := impl.StoreRun(ahead), impl.StoreRun(ops)
	wantDisk(t, name, whole.Store.Disk, calledDisk(before.Store.Disk, calls))
	for _, fuse := range append(upTo(0, len(calls)), len(calls)+1, len(calls)+1000) {
		name := fmt.Sprint(name, ", fuse ", fuse)
		run := impl.StoreRun(append(slices.Clone(ahead), impl.Op{Kind: opFuse, N: fuse}, last))
		told := run.Replies[len(before.Replies)+1:]
		if fuse >= len(calls) {
			want := whole.Store
			want.Disk = withFuse(want.Disk, fuse-len(calls))
			wantStore(t, name, run.Store, want)
			if !slices.EqualFunc(told, whole.Replies[len(before.Replies):], sameReply) {
				t.Errorf("%s: the replies are %v", name, told)
			}
			continue
		}
		d := downed(withFuse(calledDisk(before.Store.Disk, calls[:fuse]), 0))
		wantStore(t, name, run.Store, deadStore(d, before.Store.Control))
		if len(told) != 1 || !sameReply(told[0], impl.Reply{Seat: last.Seat, Kind: last.Kind, Code: rpDown}) {
			t.Errorf("%s: the replies are %v, want that it is down", name, told)
		}
	}
	return whole.Store
}

func TestCallsOfACommit(t *testing.T) {
	ops := storeOps(t, "begin 0\nput 0 5 7\ncommit 0")
	log := []impl.Record{imageOf(1001, 0, impl.Page{}), tupleRecord(1002, 0, 0, tupleBy(1, 0, intItem(5), intItem(7))), commitRecord(1003, 1)}
	log[1].Xid = 1
	b := plainLog(log)
	if len(b) != 5*59+46 {
		t.Fatalf("a log of %d bytes", len(b))
	}
	calls := []diskCall{
		{6, plainLogSector(1, 59, b[:59])}, {7, plainLogSector(1, 59, b[59:118])}, {8, plainLogSector(1, 59, b[118:177])},
		{9, plainLogSector(1, 59, b[177:236])}, {10, plainLogSector(1, 59, b[236:295])}, {11, plainLogSector(1, 46, b[295:])}, {},
	}
	s := wantCalls(t, "a commit", ops, calls)
	if s.Safe != 341 || s.Db.Room != logRoom-341 || !sameLog(s.Db.Log, log) || !slices.Equal(s.Db.Imaged, []int{0}) {
		t.Errorf("a commit: Safe %d, Room %d, Imaged %v, the log %v", s.Safe, s.Db.Room, s.Db.Imaged, s.Db.Log)
	}
}

// The second commit goes on in the sector in which the first one ended: within it, up to its end, over it, over several.
func TestCallsOfALogThatGrows(t *testing.T) {
	ways := map[string]int{}
	for first := range 41 {
		for _, second := range []int{0, 7, 20, 21, 40} {
			script := fmt.Sprintf("begin 0\nput 0 t%d*a 1\ncommit 0\nbegin 1\nput 1 t%d*b t%d*c\ncommit 1", first, first%3*5, second)
			if second == 0 {
				script = fmt.Sprintf("begin 0\nput 0 t%d*a 1\ncommit 0\nbegin 1\ndelete 1 t%d*a\ncommit 1", first, first)
			}
			if first == 0 {
				script = strings.ReplaceAll(script, "t0*a", "t")
			}
			ops := storeOps(t, script)
			before, after := impl.StoreRun(ops[:5]).Store, impl.StoreRun(ops).Store
			calls := logCalls(before.Control, after.Db.Log, before.Safe)
			s := wantCalls(t, script, ops, calls)
			if s.Safe != len(plainLog(s.Db.Log)) || before.Safe >= s.Safe {
				t.Errorf("%s: Safe %d, and then %d", script, before.Safe, s.Safe)
			}
			ways[fmt.Sprint(len(calls)-1, " sectors")]++
			ways["from a sector's end on"] += oneIf(before.Safe%logBody == 0)
			ways["up to a sector's end"] += oneIf(s.Safe%logBody == 0)
			ways["within a sector"] += oneIf(before.Safe%logBody > 0 && before.Safe/logBody == (s.Safe-1)/logBody)
		}
	}
	for _, way := range []string{"1 sectors", "2 sectors", "3 sectors", "from a sector's end on", "up to a sector's end", "within a sector"} {
		if ways[way] == 0 {
			t.Errorf("no log that grows: %s", way)
		}
	}
}

// Where the log has not grown there is no call, and no sync.
func TestCallsOfALogThatHasNotGrown(t *testing.T) {
	page := pageWith(1002, tupleBy(1, 0, intItem(5), intItem(7)))
	const one = "begin 0\nput 0 5 7\ncommit 0\n"
	for _, last := range []string{"begin 1", "begin 1\nget 1 5\ncommit 1", "order 1\nget 1 5\ncommit 1", "begin 1\ndelete 1 9\ncommit 1", "begin 1\nput 1 6 1\nabort 1", "begin 1\nput 1 6 1", "vacuum", "evict 1", "evict 15", "begin 1\ncommit 1\ncommit 1", "fuse 7\nfuse 9", "nothing"} {
		ops := storeOps(t, one+last)
		wantCallsWithoutFuse(t, last, ops)
		if ops[len(ops)-1].Kind != opFuse {
			wantCalls(t, last, ops, nil)
		}
	}
	wantCalls(t, "evict", storeOps(t, one+"evict 0"), writesOf(pageOf(0), plainPage(page)))
	wantCalls(t, "evict twice", storeOps(t, one+"evict 0\nevict 0"), writesOf(pageOf(0), plainPage(page)))
	next := impl.Control{Seq: 2, Area: 1, Lsn: 1004, Next: 2, Pages: 1}
	wantCalls(t, "checkpoint", storeOps(t, one+"checkpoint"), downCalls(next, []int{0, done}, []int{0}, heapOf(page)))
	next = impl.Control{Seq: 3, Area: 0, Lsn: 1004, Next: 2, Pages: 1}
	wantCalls(t, "checkpoint twice", storeOps(t, one+"checkpoint\ncheckpoint"), downCalls(next, []int{0, done}, nil, heapOf(page)))
}

// wantCallsWithoutFuse asks that the last op leaves the disk as it was, but for a fuse.
func wantCallsWithoutFuse(t *testing.T, name string, ops []impl.Op) {
	t.Helper()
	before, after := impl.StoreRun(ops[:len(ops)-1]).Store, impl.StoreRun(ops).Store
	wantDisk(t, name, withFuse(after.Disk, -1), withFuse(before.Disk, -1))
	if before.Safe != after.Safe || before.Control != after.Control {
		t.Errorf("%s: Safe %d (%d), %v (%v)", name, after.Safe, before.Safe, after.Control, before.Control)
	}
}

func TestCallsOfAnEvictionAheadOfItsFlush(t *testing.T) {
	ops := storeOps(t, "begin 0\nput 0 5 7\nevict 0")
	before := impl.StoreRun(ops[:2]).Store
	page := pageWith(1002, tupleBy(1, 0, intItem(5), intItem(7)))
	calls := append(logCalls(before.Control, before.Db.Log, 0), writesOf(pageOf(0), plainPage(page))...)
	s := wantCalls(t, "evict", ops, calls)
	if s.Safe != 275+47 || len(s.Db.Log) != 2 || !slices.Equal(s.Db.Imaged, []int{0}) || s.Db.Room != logRoom-322 || len(s.Disk.Waiting) != 4 {
		t.Errorf("evict: Safe %d, %d records, Imaged %v, Room %d", s.Safe, len(s.Db.Log), s.Db.Imaged, s.Db.Room)
	}
	wantCallsWithoutFuse(t, "a page that is not there", storeOps(t, "begin 0\nput 0 5 7\nevict 1"))
	wantCallsWithoutFuse(t, "no pages", storeOps(t, "begin 0\nevict 0"))
}

// threePages is a script behind which there are three pages with two long rows each.
const threePages = "begin 0\nput 0 t40*a t40*a\nput 0 t40*b t40*b\nput 0 t40*c t40*c\nput 0 t40*d t40*d\nput 0 t40*e t40*e\nput 0 t40*f t40*f\ncommit 0\n"

func TestCallsOfEvictionsOfEachPage(t *testing.T) {
	heap := behind(t, threePages).Db.Heap
	if len(heap.Pages) != 3 {
		t.Fatalf("%d pages", len(heap.Pages))
	}
	for page := range 3 {
		wantCalls(t, fmt.Sprint("page ", page), storeOps(t, fmt.Sprint(threePages, "evict ", page)), writesOf(pageOf(page), plainPage(heap.Pages[page])))
	}
	wantCallsWithoutFuse(t, "page 3", storeOps(t, threePages+"evict 3"))
	run := wantRun(t, "no pages", "evict 0 => none\nevict 15 => none")
	wantWaiting(t, "no pages", run.Store.Disk)
	s := behind(t, threePages+"evict 2\nevict 0\nevict 1")
	wantWaiting(t, "three pages", s.Disk, 142, 143, 144, 145, 134, 135, 136, 137, 138, 139, 140, 141)
}

func TestCallsOfACheckpoint(t *testing.T) {
	ops := storeOps(t, threePages+"begin 1\nput 1 5 6\nbegin 2\nbegin 3\nabort 3\ncheckpoint")
	before := impl.StoreRun(ops[:len(ops)-1]).Store
	next := impl.Control{Seq: 2, Area: 1, Lsn: 1001 + 3 + 6 + 1 + 1, Next: 5, Pages: 3}
	down := downCalls(next, []int{0, done, running, running, gone}, []int{0, 1, 2}, before.Db.Heap)
	s := wantCalls(t, "a log that grew", ops, append(logCalls(before.Control, before.Db.Log, before.Safe), down...))
	if s.Control != next || s.Safe != 0 || len(s.Db.Log) != 0 || len(s.Db.Imaged) != 0 || s.Db.Room != logRoom || s.Db.Lsn != before.Db.Lsn {
		t.Errorf("a log that grew: %v, Safe %d, %d records, Imaged %v, Room %d", s.Control, s.Safe, len(s.Db.Log), s.Db.Imaged, s.Db.Room)
	}
	kept := before.Db
	kept.Log, kept.Imaged, kept.Room = nil, nil, logRoom
	if field := otherField(s.Db, kept); field != "" {
		t.Errorf("a checkpoint changes %s", field)
	}
	flushed := append(slices.Clone(ops[:len(ops)-1]), impl.Op{Kind: opEvict, N: 1}, impl.Op{Kind: opCheckpoint})
	wantCalls(t, "a log that was flushed", flushed, down)
	empty := impl.Control{Seq: 2, Area: 1, Lsn: 1001, Next: 1, Pages: 0}
	wantCalls(t, "nothing", storeOps(t, "checkpoint"), downCalls(empty, []int{0}, nil, impl.Heap{}))
	empty.Next = 2
	wantCalls(t, "one that runs", storeOps(t, "begin 0\ncheckpoint"), downCalls(empty, []int{0, running}, nil, impl.Heap{}))
	wantCalls(t, "one that is done", storeOps(t, "begin 0\ncommit 0\ncheckpoint"), downCalls(empty, []int{0, done}, nil, impl.Heap{}))
}

// Only pages that changed since the last time are written down, rising, in whatever order they changed.
func TestCallsOfACheckpointOfSomePages(t *testing.T) {
	for _, of := range []struct {
		script string
		pages  []int
	}{
		{"", nil},
		{"delete 1 t40*a", []int{0}},
		{"delete 1 t40*e", []int{2}},
		{"delete 1 t40*f\ndelete 1 t40*a", []int{0, 2}},
		{"delete 1 t40*f\ndelete 1 t40*d\ndelete 1 t40*b", []int{0, 1, 2}},
		{"put 1 t40*g t40*g", []int{3}},
		{"put 1 t40*e t40*g", []int{2, 3}},
		{"put 1 t40*g t40*g\ndelete 1 t40*c\ndelete 1 t40*d", []int{1, 3}},
	} {
		for _, last := range []string{"", "commit 1\n", "abort 1\n", "abort 1\nvacuum\n"} {
			name := of.script + ", " + last
			ops := storeOps(t, threePages+"checkpoint\nbegin 1\n"+of.script+"\n"+last+"checkpoint")
			before := impl.StoreRun(ops[:len(ops)-1]).Store
			next := impl.Control{Seq: 3, Area: 0, Lsn: before.Db.Lsn, Next: 3, Pages: len(before.Db.Heap.Pages)}
			if !slices.Equal(before.Db.Imaged, of.pages) {
				t.Errorf("%s: Imaged is %v, want %v", name, before.Db.Imaged, of.pages)
			}
			var calls []diskCall
			if len(plainLog(before.Db.Log)) > before.Safe {
				calls = logCalls(before.Control, before.Db.Log, before.Safe)
			}
			wantCalls(t, name, ops, append(calls, downCalls(next, before.Db.List, of.pages, before.Db.Heap)...))
		}
	}
}

// With each writing down the Seq, the area and the sector of the control are others, and the log begins anew there.
func TestSeqAndAreaByTurns(t *testing.T) {
	script, ahead := "", ""
	for i := range 12 {
		seq := i + 1
		before := behind(t, script)
		if before.Control.Seq != seq || before.Control.Area != i%2 || before.Safe != 0 {
			t.Fatalf("behind %d: %v, Safe %d", i, before.Control, before.Safe)
		}
		wantSectors(t, fmt.Sprint("Seq ", seq), before.Disk, seq%2, plainControl(before.Control))
		wantSectors(t, fmt.Sprint("Seq ", seq), before.Disk, statusesAt(i%2), plainPadded(plainStatusBytes(before.Db.List), 128))
		if i > 0 {
			wantSectors(t, fmt.Sprint("Seq ", seq, ", the one ahead"), before.Disk, 1-seq%2, readOf(behind(t, ahead).Disk, 1-seq%2, 1))
		}
		ahead = script
		script += fmt.Sprintf("begin 0\nput 0 5 %d\ncommit 0\n", i)
		after := behind(t, script)
		b := plainLog(after.Db.Log)
		wantSectors(t, fmt.Sprint("Seq ", seq, ", its log"), after.Disk, logOf(i%2), plainLogSectors(seq, b))
		if !bytes.Equal(readOf(after.Disk, logOf(1-i%2), 64), readOf(before.Disk, logOf(1-i%2), 64)) || after.Safe != len(b) {
			t.Errorf("Seq %d: the log of the other area is changed, or Safe is %d of %d", seq, after.Safe, len(b))
		}
		if first := after.Db.Log[0]; first.Kind != impl.RecImage || first.Lsn != before.Control.Lsn {
			t.Errorf("Seq %d: the log begins with %v", seq, first)
		}
		if i%3 == 2 {
			script += "crash\n"
		} else {
			script += "checkpoint\n"
		}
	}
}

// Evictions that no sync follows: the disk takes so many waiting writes and no more.
func TestCallsOfADiskThatIsFull(t *testing.T) {
	many := strings.Repeat("evict 0\n", 150)
	s := behind(t, "begin 0\nput 0 5 7\n"+many)
	if len(s.Disk.Waiting) != mostWaiting || s.Dead {
		t.Fatalf("%d writes wait, Dead %t", len(s.Disk.Waiting), s.Dead)
	}
	for _, last := range []string{"evict 0", "checkpoint", "fuse 0\nevict 0", "fuse 9\ncheckpoint", "put 0 6 1\ncommit 0", "commit 0"} {
		run := impl.StoreRun(storeOps(t, "begin 0\nput 0 5 7\n"+many+last))
		want := s.Disk
		if strings.HasPrefix(last, "fuse") {
			want = withFuse(want, int(last[5]-'0'))
		}
		wantStore(t, "full: "+last, run.Store, deadStore(want, s.Control))
		if code := run.Replies[len(run.Replies)-1].Code; code != rpDown {
			t.Errorf("full: %s has code %d", last, code)
		}
	}
	run := impl.StoreRun(storeOps(t, "begin 0\nput 0 5 7\n"+many+"evict 0\nput 0 6 1\ncrash all\nbegin 0\nput 0 5 8\ncommit 0\nevict 0"))
	codes := codesOf(impl.Play{Replies: run.Replies})
	if got := codes[152:]; !slices.Equal(got, []int{rpDown, rpDown, rpDone, rpDone, rpDone, rpDone, rpDone}) || run.Replies[154].N != 0 {
		t.Errorf("behind a full disk the codes are %v", got)
	}
	run = impl.StoreRun(storeOps(t, "begin 0\nput 0 5 7\n"+many+"begin 1\nget 1 5\nvacuum\ncommit 1\nevict 1"))
	if got := codesOf(impl.Play{Replies: run.Replies})[152:]; !slices.Equal(got, []int{rpDone, rpNone, rpDone, rpDone, rpNone}) {
		t.Errorf("what asks nothing of a full disk has the codes %v", got)
	}
}

// A flush of a log behind evictions: its sync makes the pages safe, too.
func TestEvictionsAreSafeBehindTheNextSync(t *testing.T) {
	s := behind(t, "begin 0\nput 0 5 7\nevict 0\nput 0 6 1\ncommit 0")
	wantWaiting(t, "behind a commit", s.Disk)
	wantSectors(t, "behind a commit", s.Disk, pageOf(0), plainPage(pageWith(1002, tupleBy(1, 0, intItem(5), intItem(7)))))
	s = behind(t, "begin 0\nput 0 5 7\ncommit 0\nevict 0\nbegin 0\nget 0 5\ncommit 0")
	wantWaiting(t, "behind a commit of a reader", s.Disk, 134, 135, 136, 137)
}
