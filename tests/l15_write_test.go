package tests

import (
	"fmt"
	"slices"
	"strings"
	"testing"

	"loop.example/g00252/impl"
)

// tupleBy is a tuple as it comes into a slot.
func tupleBy(xmin int, xmax int, key impl.Item, value impl.Item) impl.Tuple {
	return impl.Tuple{Xmin: xmin, Xmax: xmax, Key: key, Value: value}
}

func putOf(xid int, page int, slot int, key impl.Item, value impl.Item) impl.Record {
	return impl.Record{Kind: impl.RecPut, Xid: xid, Page: page, Slot: slot, Data: plainTuple(tupleBy(xid, 0, key, value))}
}

func markOf(xid int, page int, slot int) impl.Record {
	return impl.Record{Kind: impl.RecMark, Xid: xid, Page: page, Slot: slot}
}

func clearOf(page int, slot int) impl.Record {
	return impl.Record{Kind: impl.RecClear, Page: page, Slot: slot}
}

func commitOf(xid int) impl.Record {
	return impl.Record{Kind: impl.RecCommit, Xid: xid}
}

// newImage is the image of a page that there was not yet.
func newImage(page int) impl.Record {
	return impl.Record{Kind: impl.RecImage, Page: page, Data: make([]byte, 256)}
}

func TestPutPlainly(t *testing.T) {
	for level, begin := range []string{"begin", "order"} {
		p := wantPlay(t, "puts", begin+` 0 => done 1
			put 0 5 7 => done
			put 0 ta f1 => done
			put 0 5 8 => done 1
		`)
		wantLogged(t, "puts", p.Db, newImage(0), putOf(1, 0, 0, intItem(5), intItem(7)), putOf(1, 0, 1, textItem("a"), floatItem(1)), markOf(1, 0, 0), putOf(1, 0, 2, intItem(5), intItem(8)))
		want := heapOf(pageWith(5, tupleBy(1, 1, intItem(5), intItem(7)), tupleBy(1, 0, textItem("a"), floatItem(1)), tupleBy(1, 0, intItem(5), intItem(8))))
		wantHeap(t, "puts", p.Db.Heap, true, want)
		wantEntries(t, "puts", impl.TreeAll(p.Db.Tree), []impl.Entry{entryOf(5, 0), entryOf(5, 2), {Key: textItem("a"), Id: 1}})
		wantSeat(t, "puts", p.Db.Seats[0], impl.Seat{Open: true, Level: level, Begun: 1, Snap: snapOf(1), Writes: []impl.Item{intItem(5), textItem("a"), intItem(5)}})
		wantCommitted(t, "puts", p.Db, "")
		p = wantPlay(t, "committed", begin+" 0 => done 1\nput 0 5 7 => done\nput 0 5 8 => done 1\ncommit 0 => done 1")
		wantLogged(t, "committed", p.Db, newImage(0), putOf(1, 0, 0, intItem(5), intItem(7)), markOf(1, 0, 0), putOf(1, 0, 1, intItem(5), intItem(8)), commitOf(1))
		wantCommitted(t, "committed", p.Db, "5=8")
	}
}

// The log's bytes are those of its records, which tell the numbers of who did what, and where.
func TestTheLogByteByByte(t *testing.T) {
	p := impl.LiveRun(opsOf(t, "begin 3\nput 3 ta 1\ndelete 3 ta\ncommit 3\nvacuum"))
	b, ok := impl.LogBytes(p.Db.Log)
	tuple := join([]byte{1, 0, 0, 0, 0, 0, 0, 0, 2, 3, 'a', 9, 1, 0x80, 0, 0, 0, 0, 0, 0, 1})
	want := join(
		plainFrame(1, join([]byte{1, 0, 0, 0, 0, 0, 0, 0, 0, 0, 0, 0}, make([]byte, 256))),
		plainFrame(2, join([]byte{2, 0, 0, 0, 1, 0, 0, 0, 0, 0, 0, 0}, tuple)),
		plainFrame(3, []byte{3, 0, 0, 0, 1, 0, 0, 0, 0, 0, 0, 0}),
		plainFrame(5, []byte{4, 0, 0, 0, 1, 0, 0, 0, 0, 0, 0, 0}),
		plainFrame(4, []byte{5, 0, 0, 0, 0, 0, 0, 0, 0, 0, 0, 0}),
	)
	if !ok || !slices.Equal(b, want) {
		t.Errorf("the log's bytes are %v, want %v", b, want)
	}
}

func TestDeletePlainly(t *testing.T) {
	for _, begin := range []string{"begin", "order"} {
		p := wantPlay(t, "deletes", `
			begin 0 => done 1
			put 0 5 7 => done
			put 0 6 7 => done
			commit 0 => done 1
			`+begin+` 1 => done 2
			delete 1 5 => done
			delete 1 5 => none
			delete 1 4 => none
			put 1 8 1 => done
			delete 1 8 => done
			delete 1 8 => none
			put 1 5 9 => done
			commit 1 => done 2
		`)
		wantLogged(t, "deletes", p.Db, newImage(0), putOf(1, 0, 0, intItem(5), intItem(7)), putOf(1, 0, 1, intItem(6), intItem(7)), commitOf(1),
			markOf(2, 0, 0), putOf(2, 0, 2, intItem(8), intItem(1)), markOf(2, 0, 2), putOf(2, 0, 3, intItem(5), intItem(9)), commitOf(2))
		want := heapOf(pageWith(8, tupleBy(1, 2, intItem(5), intItem(7)), tupleBy(1, 0, intItem(6), intItem(7)), tupleBy(2, 2, intItem(8), intItem(1)), tupleBy(2, 0, intItem(5), intItem(9))))
		wantHeap(t, "deletes", p.Db.Heap, true, want)
		wantCommitted(t, "deletes", p.Db, "5=9 6=7")
		p = wantPlay(t, "Writes of deletes", begin+" 0 => done 1\nput 0 5 7 => done\ndelete 0 5 => done\ndelete 0 5 => none\ndelete 0 6 => none\nput 0 5 1 => done\ndelete 0 5 => done")
		if !slices.EqualFunc(p.Db.Seats[0].Writes, intItems(5, 5, 5, 5), sameItem) {
			t.Errorf("the Writes are %v", p.Db.Seats[0].Writes)
		}
	}
}

// What a write takes over has the Xmax of one that was given up, or of nobody.
func TestWritesOverWhatWasGivenUp(t *testing.T) {
	p := wantPlay(t, "given up", `
		begin 0 => done 1
		put 0 5 7 => done
		commit 0 => done 1
		begin 0 => done 2
		put 0 5 8 => done 1
		abort 0 => done
		begin 0 => done 3
		delete 0 5 => done
		abort 0 => done
		begin 0 => done 4
		put 0 5 9 => done 1
		commit 0 => done 4
	`)
	wantHeap(t, "given up", p.Db.Heap, true, heapOf(pageWith(8, tupleBy(1, 4, intItem(5), intItem(7)), tupleBy(2, 0, intItem(5), intItem(8)), tupleBy(4, 0, intItem(5), intItem(9)))))
	wantCommitted(t, "given up", p.Db, "5=9")
}

// A write goes to the first page that has a place; a new page's image comes ahead of its first record alone.
func TestWritesOverSeveralPages(t *testing.T) {
	long := longText("v")
	p := wantPlay(t, "pages", `
		begin 0 => done 1
		put 0 t40*a t40*v => done
		put 0 t40*b t40*v => done
		put 0 t40*a t40*v => done 1
		put 0 1 2 => done
		put 0 t40*c t40*v => done
		put 0 t40*d t40*v => done
		delete 0 t40*c => done
		commit 0 => done 1
	`)
	wantLogged(t, "pages", p.Db,
		newImage(0), putOf(1, 0, 0, longText("a"), long), putOf(1, 0, 1, longText("b"), long),
		markOf(1, 0, 0), newImage(1), putOf(1, 1, 0, longText("a"), long),
		putOf(1, 0, 2, intItem(1), intItem(2)),
		putOf(1, 1, 1, longText("c"), long),
		newImage(2), putOf(1, 2, 0, longText("d"), long),
		markOf(1, 1, 1), commitOf(1))
	if !slices.Equal(p.Db.Imaged, []int{0, 1, 2}) || len(p.Db.Heap.Pages) != 3 {
		t.Errorf("Imaged is %v, there are %d pages", p.Db.Imaged, len(p.Db.Heap.Pages))
	}
	for page, lsn := range []int{7, 11, 10} {
		if p.Db.Heap.Pages[page].Lsn != lsn {
			t.Errorf("page %d has the Lsn %d, want %d", page, p.Db.Heap.Pages[page].Lsn, lsn)
		}
	}
	wantEntries(t, "pages", impl.TreeAll(p.Db.Tree), []impl.Entry{entryOf(1, 2), {Key: longText("a"), Id: 0}, {Key: longText("a"), Id: 16}, {Key: longText("b"), Id: 1}, {Key: longText("c"), Id: 17}, {Key: longText("d"), Id: 32}})
}

func TestWhoHoldsAKey(t *testing.T) {
	rows := "begin 7 => done 1\nput 7 5 1 => done\nput 7 6 1 => done\ncommit 7 => done 1\n"
	for _, of := range []struct {
		name, held, key string
	}{
		{"by its Xmin", "put 0 9 1 => done", "9"},
		{"by its Xmax", "delete 0 5 => done", "5"},
		{"by both, of two rows", "put 0 5 2 => done 1", "5"},
		{"by both, of one row", "put 0 9 1 => done\nput 0 9 2 => done 1", "9"},
		{"by a row that it deleted itself", "put 0 9 1 => done\ndelete 0 9 => done", "9"},
		{"by several rows", "put 0 5 2 => done 1\nput 0 5 3 => done 1\ndelete 0 5 => done\nput 0 5 4 => done", "5"},
		{"by one behind rows that were given up", "begin 2 => done 4\nput 2 5 1 => done 1\nabort 2 => done\nput 0 5 2 => done 1", "5"},
	} {
		for _, op := range []string{"put 1 %s 3", "delete 1 %s"} {
			for _, begin := range []string{"begin", "order"} {
				line := fmt.Sprintf(op, of.key)
				p := wantPlay(t, of.name, rows+begin+" 0 => done 2\n"+begin+" 1 => done 3\n"+of.held+"\n"+line+" => wait 2")
				o := opOfLine(t, line)
				waits := impl.Op{Kind: o.Kind, Seat: 1, Key: o.Key, Value: o.Value}
				snap := snapOf(3, 2)
				wantSeat(t, of.name, p.Db.Seats[1], impl.Seat{Open: true, Level: oneIf(begin == "order"), Begun: 4, Snap: snap, Waits: waits, Holder: 2, Since: 1})
				if p.Db.Turns != 1 {
					t.Errorf("%s: Turns is %d", of.name, p.Db.Turns)
				}
				was := impl.LiveRun(opsOf(t, rows+begin+" 0\n"+begin+" 1\n"+of.held)).Db
				p.Db.Seats[1], p.Db.Turns = was.Seats[1], was.Turns
				if field := otherField(p.Db, was); field != "" {
					t.Errorf("%s: %s was changed by one that waits", of.name, field)
				}
			}
		}
	}
}

// What an op that waits does not name is not kept with it, and its key is kept clean.
func TestWhatASeatWaitsWith(t *testing.T) {
	junk := impl.Op{Seat: 1, Level: 9, N: -7, Key: floatItem(minusNought()), To: impl.Item{Kind: 8}, Value: textItem("value"), Keep: make([]bool, 700)}
	for _, kind := range []int{opPut, opDelete} {
		o := junk
		o.Kind = kind
		p := impl.LiveRun(append(opsOf(t, "begin 0\nbegin 1\nput 0 f0 1"), o))
		want := impl.Op{Kind: kind, Seat: 1, Key: floatItem(0)}
		if kind == opPut {
			want.Value = textItem("value")
		}
		if got := p.Db.Seats[1].Waits; !sameOp(got, want) || p.Replies[3].Code != rpWait {
			t.Errorf("it waits with %v, want %v", got, want)
		}
	}
	p := impl.LiveRun(append(opsOf(t, "begin 0\nbegin 1\nput 0 f0 1"), impl.Op{Kind: opPut, Seat: 1, Key: floatItem(0), Value: floatItem(minusNought())}))
	if got := p.Db.Seats[1].Waits.Value; !sameItem(got, floatItem(minusNought())) {
		t.Errorf("a -0 waits as %v", got)
	}
}

func TestNobodyHoldsAKey(t *testing.T) {
	wantPlay(t, "its own", "begin 0 => done 1\nput 0 5 1 => done\nput 0 5 2 => done 1\ndelete 0 5 => done\nput 0 5 3 => done\ndelete 0 5 => done\ndelete 0 5 => none")
	wantPlay(t, "another key", "begin 0 => done 1\nbegin 1 => done 2\nput 0 5 1 => done\nput 1 f5 1 => done\nput 1 t5 1 => done\nput 1 6 1 => done\ndelete 1 4 => none")
	wantPlay(t, "who reads holds nothing", "order 0 => done 1\nget 0 5 => none\nscan 0 0 9 5 => done\norder 1 => done 2\nput 1 5 1 => done\nbegin 2 => done 3\nput 2 6 1 => done")
	wantPlay(t, "who was given up", "begin 0 => done 1\nput 0 5 1 => done\nbegin 1 => done 2\nabort 0 => done\nput 1 5 2 => done\nbegin 0 => done 3\ndelete 0 5 => wait 2")
	wantPlay(t, "who ended ahead of its begin", "begin 0 => done 1\nput 0 5 1 => done\ncommit 0 => done 1\nbegin 0 => done 2\ndelete 0 5 => done\ncommit 0 => done 2\nbegin 0 => done 3\nput 0 5 1 => done")
}

func TestConflictsPlainly(t *testing.T) {
	rows := "begin 7 => done 1\nput 7 5 1 => done\ncommit 7 => done 1\n"
	for _, of := range []struct {
		name, script, key string
	}{
		{"a row that came, of one that ran", "begin 1 => done 2\nbegin 0 => done 3\nput 1 9 1 => done\ncommit 1 => done 2\n", "9"},
		{"a row that came, of one that began later", "begin 0 => done 2\nbegin 1 => done 3\nput 1 9 1 => done\ncommit 1 => done 3\n", "9"},
		{"a row that went", "begin 0 => done 2\nbegin 1 => done 3\ndelete 1 5 => done\ncommit 1 => done 3\n", "5"},
		{"a row that was written over", "begin 0 => done 2\nbegin 1 => done 3\nput 1 5 2 => done 1\ncommit 1 => done 3\n", "5"},
		{"a row that came and went", "begin 0 => done 2\nbegin 1 => done 3\nput 1 9 2 => done\ndelete 1 9 => done\ncommit 1 => done 3\n", "9"},
		{"a row that came, and went by another one", "begin 0 => done 2\nbegin 1 => done 3\nput 1 9 2 => done\ncommit 1 => done 3\nbegin 1 => done 4\ndelete 1 9 => done\ncommit 1 => done 4\n", "9"},
		{"a row over which one is given up", "begin 0 => done 2\nbegin 1 => done 3\nput 1 9 2 => done\ncommit 1 => done 3\nbegin 1 => done 4\nput 1 9 3 => done 1\nabort 1 => done\n", "9"},
		{"clean-ups do not hide it", "begin 0 => done 2\nbegin 1 => done 3\ndelete 1 5 => done\ncommit 1 => done 3\nvacuum => done\n", "5"},
	} {
		for _, op := range []string{"put 0 %s 3", "delete 0 %s"} {
			line := fmt.Sprintf(op, of.key)
			was := impl.LiveRun(opsOf(t, rows+of.script)).Db
			p := wantPlay(t, of.name, rows+of.script+line+" => conflict")
			wantSeat(t, of.name, p.Db.Seats[0], impl.Seat{})
			if p.Db.Clock != was.Clock+1 || p.Db.List[2+oneIf(strings.HasPrefix(of.script, "begin 1"))] != gone {
				t.Errorf("%s: Clock is %d, the list is %v", of.name, p.Db.Clock, p.Db.List)
			}
			p.Db.Seats[0], p.Db.Clock, p.Db.List = was.Seats[0], was.Clock, was.List
			if field := otherField(p.Db, was); field != "" {
				t.Errorf("%s: %s was changed by a conflict", of.name, field)
			}
			wantPlay(t, of.name, rows+of.script+"get 0 8 => none\nput 0 8 1 => done\nabort 0 => done")
		}
	}
}

func TestNoConflict(t *testing.T) {
	wantPlay(t, "who ended ahead of its begin", "begin 1 => done 1\nput 1 5 1 => done\ncommit 1 => done 1\nbegin 0 => done 2\nput 0 5 2 => done 1")
	wantPlay(t, "who was given up", "begin 0 => done 1\nbegin 1 => done 2\nput 1 5 1 => done\nabort 1 => done\nput 0 5 2 => done")
	wantPlay(t, "another key", "begin 0 => done 1\nbegin 1 => done 2\nput 1 5 1 => done\ncommit 1 => done 2\nput 0 6 2 => done")
	wantPlay(t, "a read", "begin 0 => done 1\nbegin 1 => done 2\nput 1 5 1 => done\ncommit 1 => done 2\nget 0 5 => none\nscan 0 0 9 5 => done\ntotal 0 0 9 => done\ncommit 0 => done 1")
	wantPlay(t, "a key that its holder left", "begin 0 => done 1\nbegin 1 => done 2\nput 1 5 1 => done\nput 0 5 2 => wait 2\nabort 1 => done; 0 put done\ncommit 0 => done 1")
}

// Each reason of a write ahead of those that stand behind it in the document.
func TestEachReasonOfAWriteAheadOfTheNext(t *testing.T) {
	late := "order 0 => done 1\nbegin 1 => done 2\nput 1 5 1 => done\ncommit 1 => done 2\n"
	wantPlay(t, "a wait ahead of a conflict", late+"begin 1 => done 3\nput 1 5 2 => done 1\nput 0 5 3 => wait 3\nabort 1 => done; 0 put conflict")
	wantPlay(t, "a ring ahead of a conflict", late+"begin 1 => done 3\nput 1 5 2 => done 1\nput 0 6 1 => done\nput 1 6 1 => wait 1\nput 0 5 3 => deadlock; 1 put done")
	marked := "order 2 => done 3\norder 3 => done 4\nput 0 3 3 => done\nget 0 1 => none\nget 2 3 => none\nput 3 1 1 => done\n"
	wantPlay(t, "a conflict ahead of a danger", late+marked+"put 0 5 3 => conflict")
	wantPlay(t, "a wait ahead of a danger", late+marked+"put 0 1 3 => wait 4")
	wantPlay(t, "a danger", late+marked+"put 0 8 3 => serial")
	wantPlay(t, "a danger ahead of a delete of nothing", late+marked+"delete 0 8 => serial")
}

func TestWritesOfLevel1AreTracked(t *testing.T) {
	p := wantPlay(t, "tracked", `
		order 0 => done 1
		order 1 => done 2
		scan 1 4 9 9 => done
		put 0 5 1 => done
		put 0 5 2 => done 1
		put 0 1 2 => done
		delete 0 5 => done
	`)
	if want := tracksOf(withMarks(withWrites(active(1, 1), 5, 1), true, false), withMarks(withSpans(active(2, 2), spanOf(4, 9)), false, true)); !sameTracks(p.Db.Tracks, want) {
		t.Errorf("the tracks are %v, want %v", p.Db.Tracks, want)
	}
	if !slices.EqualFunc(p.Db.Seats[0].Writes, intItems(5, 5, 1, 5), sameItem) {
		t.Errorf("the Writes are %v", p.Db.Seats[0].Writes)
	}
}

// The marks that a write leaves on others stay, where it is a danger, too.
func TestAWriteThatIsADanger(t *testing.T) {
	script := `
		order 0 => done 1
		order 1 => done 2
		order 2 => done 3
		get 0 5 => none
		put 2 6 1 => done
		get 1 6 => none
	`
	p := wantPlay(t, "a danger", script+"put 1 5 1 => serial")
	want := tracksOf(withMarks(withReads(active(1, 1), 5), false, true), withMarks(withWrites(active(3, 3), 6), true, false))
	if !sameTracks(p.Db.Tracks, want) || len(p.Db.Log) != 2 || p.Db.List[2] != gone || p.Db.Clock != 4 {
		t.Errorf("the tracks are %v, want %v; the list is %v", p.Db.Tracks, want, p.Db.List)
	}
	wantSeat(t, "a danger", p.Db.Seats[1], impl.Seat{})
	wantPlay(t, "one that ended stands between", `
		order 0 => done 1
		order 1 => done 2
		order 2 => done 3
		put 1 5 1 => done
		get 1 6 => none
		get 0 5 => none
		commit 1 => done 2
		put 2 6 1 => serial
		commit 0 => done 1
	`)
	wantPlay(t, "a delete", "begin 7 => done 1\nput 7 5 1 => done\ncommit 7 => done 1\norder 0 => done 2\norder 1 => done 3\norder 2 => done 4\nget 0 5 => done is 1\nput 2 6 1 => done\nget 1 6 => none\ndelete 1 5 => serial")
	wantPlay(t, "Level 0 is no danger", "order 0 => done 1\nbegin 1 => done 2\norder 2 => done 3\nget 0 5 => none\nput 2 6 1 => done\nget 1 6 => none\nput 1 5 1 => done\ncommit 1 => done 2")
}

func fullHeap(seat int) []impl.Op {
	ops := []impl.Op{{Kind: opBegin, Seat: seat}}
	for _, key := range manyLongKeys()[:32] {
		ops = append(ops, impl.Op{Kind: opPut, Seat: seat, Key: key, Value: longText("v")})
	}
	return append(ops, impl.Op{Kind: opCommit, Seat: seat})
}

func TestWritesIntoAFullHeap(t *testing.T) {
	at := func(i int) string { return wordOf(manyLongKeys()[i]) }
	for _, begin := range []string{"begin", "order"} {
		for _, of := range []struct {
			name, more string
			want       []int
		}{
			{"one more", "put 1 " + at(40) + " t40*v", []int{rpFull}},
			{"one over another", "put 1 " + at(3) + " t40*v", []int{rpFull}},
			{"one that is just too long", "put 1 t40*z ta", []int{rpFull}},
			{"one that just goes in", "put 1 t40*z t", []int{rpDone}},
			{"small ones", "put 1 1 1\nput 1 2 2", []int{rpDone, rpDone}},
			{"a delete", "delete 1 " + at(3), []int{rpDone}},
			{"a delete of nothing", "delete 1 " + at(40), []int{rpNone}},
			{"reads", "get 1 " + at(3) + "\nscan 1 t tz 2", []int{rpDone, rpDone}},
			{"one more behind a write", "put 1 1 1\nput 1 " + at(40) + " t40*v\nget 1 1", []int{rpDone, rpFull, rpShut}},
			{"a clean-up of what is there", "vacuum\nput 1 " + at(40) + " t40*v", []int{rpDone, rpFull}},
		} {
			ops := append(fullHeap(0), opsOf(t, begin+" 1\n"+of.more)...)
			p := wantAsPlainly(t, of.name, ops)
			if got := codesOf(p)[35:]; !slices.Equal(got, of.want) {
				t.Errorf("%s: the codes are %v, want %v", of.name, got, of.want)
			}
			if len(p.Db.Heap.Pages) != 16 || !impl.HeapOk(p.Db.Heap) {
				t.Errorf("%s: %d pages", of.name, len(p.Db.Heap.Pages))
			}
		}
		was := impl.LiveRun(append(fullHeap(0), opsOf(t, begin+" 1")...)).Db
		p := impl.LiveRun(append(fullHeap(0), opsOf(t, begin+" 1\nput 1 "+at(3)+" t40*w")...))
		if p.Db.List[2] != gone || p.Db.Clock != was.Clock+1 || len(p.Db.Tracks) != 0 || !sameHeap(p.Db.Heap, was.Heap) || !sameLog(p.Db.Log, was.Log) || !sameTree(p.Db.Tree, was.Tree) {
			t.Error("what has no place leaves something behind")
		}
		wantSeat(t, "no place", p.Db.Seats[1], impl.Seat{})
	}
}

// A write that is a danger is that, also where it has no place; a conflict and a wait go ahead of both.
func TestReasonsAheadOfAFullHeap(t *testing.T) {
	at := func(i int) string { return wordOf(manyLongKeys()[i]) }
	danger := "order 0\norder 1\norder 2\nget 0 " + at(3) + "\nput 2 6 1\nget 1 6\n"
	for _, of := range []struct {
		name, script string
		want         int
	}{
		{"a danger", danger + "put 1 " + at(3) + " t40*w", rpSerial},
		{"no place", danger + "put 1 " + at(4) + " t40*w", rpFull},
		{"a conflict", "begin 1\nbegin 2\ndelete 2 " + at(4) + "\ncommit 2\nput 1 " + at(4) + " t40*w", rpConflict},
		{"a wait", "begin 1\nbegin 2\ndelete 2 " + at(4) + "\nput 1 " + at(4) + " t40*w", rpWait},
		{"no place once it is waked", "begin 1\nbegin 2\ndelete 2 " + at(4) + "\nput 1 " + at(4) + " t40*w\nabort 2", rpFull},
	} {
		p := wantAsPlainly(t, of.name, append(fullHeap(3), opsOf(t, of.script)...))
		if got := p.Replies[len(p.Replies)-1].Code; got != of.want {
			t.Errorf("%s: the last code is %s, want %s", of.name, codeNames()[got], codeNames()[of.want])
		}
	}
}

// Places that were cleared are filled again.
func TestPlacesAreTakenAgain(t *testing.T) {
	at := func(i int) string { return wordOf(manyLongKeys()[i]) }
	more := "begin 0\ndelete 0 " + at(5) + "\ncommit 0\nbegin 0\nput 0 " + at(50) + " t40*w"
	p := wantAsPlainly(t, "full", append(fullHeap(0), opsOf(t, more)...))
	if p.Replies[len(p.Replies)-1].Code != rpFull {
		t.Errorf("a heap that is full of what is dead: %v", p.Replies[len(p.Replies)-1])
	}
	p = wantAsPlainly(t, "cleaned", append(fullHeap(0), opsOf(t, strings.Replace(more, "begin 0\nput", "vacuum\nbegin 0\nput", 1))...))
	if got, ok := impl.HeapAt(p.Db.Heap, 2, 1); p.Replies[len(p.Replies)-1].Code != rpDone || !ok || !sameItem(got.Key, manyLongKeys()[50]) {
		t.Errorf("a heap with a place: %v", p.Replies[len(p.Replies)-1])
	}
	wantIds(t, "cleaned", p.Db.Tree, manyLongKeys()[50], 33)
	wantIds(t, "cleaned", p.Db.Tree, manyLongKeys()[5])
}
