package tests

import (
	"fmt"
	"math"
	"slices"
	"testing"

	"loop.example/g00252/impl"
)

func TestGetPlainly(t *testing.T) {
	for _, begin := range []string{"begin", "order"} {
		wantPlay(t, "a key that is there, and one that is not", `
			begin 0 => done 1
			put 0 5 7 => done
			put 0 ta tb => done
			put 0 f0.5 f-0 => done
			commit 0 => done 1
			`+begin+` 1 => done 2
			get 1 5 => done is 7
			get 1 6 => none
			get 1 4 => none
			get 1 ta => done is tb
			get 1 t => none
			get 1 taa => none
			get 1 f0.5 => done is f-0
			get 1 f5 => none
			get 1 5 => done is 7
		`)
		wantPlay(t, "its own writes", begin+` 0 => done 1
			get 0 5 => none
			put 0 5 7 => done
			get 0 5 => done is 7
			put 0 5 8 => done 1
			get 0 5 => done is 8
			delete 0 5 => done
			get 0 5 => none
			put 0 5 9 => done
			get 0 5 => done is 9
			commit 0 => done 1
			`+begin+` 0 => done 2
			get 0 5 => done is 9
			put 0 5 10 => done 1
			get 0 5 => done is 10
			abort 0 => done
			`+begin+` 0 => done 3
			get 0 5 => done is 9
			delete 0 5 => done
			get 0 5 => none
			abort 0 => done
			`+begin+` 0 => done 4
			get 0 5 => done is 9
		`)
	}
}

// Whatever another one does behind its begin, a transaction reads what was there.
func TestGetTellsWhatWasCommittedAtItsBegin(t *testing.T) {
	wantPlay(t, "another one that runs", `
		begin 0 => done 1
		put 0 5 7 => done
		begin 1 => done 2
		get 1 5 => none
		put 0 5 8 => done 1
		get 1 5 => none
		get 0 5 => done is 8
	`)
	wantPlay(t, "another one that ended behind its begin", `
		begin 0 => done 1
		put 0 5 7 => done
		put 0 6 7 => done
		commit 0 => done 1
		begin 0 => done 2
		begin 1 => done 3
		put 0 5 8 => done 1
		delete 0 6 => done
		put 0 4 1 => done
		get 1 5 => done is 7
		get 1 6 => done is 7
		commit 0 => done 2
		get 1 5 => done is 7
		get 1 6 => done is 7
		get 1 4 => none
		begin 2 => done 4
		get 2 5 => done is 8
		get 2 6 => none
		get 2 4 => done is 1
		commit 1 => done 3
		begin 1 => done 5
		get 1 5 => done is 8
	`)
	wantPlay(t, "one that began and ended behind its begin", `
		begin 1 => done 1
		begin 0 => done 2
		put 0 5 7 => done
		commit 0 => done 2
		get 1 5 => none
		scan 1 0 9 9 => done
		begin 0 => done 3
		get 0 5 => done is 7
	`)
	wantPlay(t, "one that was given up", `
		begin 0 => done 1
		put 0 5 7 => done
		commit 0 => done 1
		begin 0 => done 2
		put 0 5 8 => done 1
		put 0 6 8 => done
		begin 1 => done 3
		abort 0 => done
		get 1 5 => done is 7
		get 1 6 => none
		begin 0 => done 4
		get 0 5 => done is 7
		get 0 6 => none
	`)
	wantPlay(t, "several, each with its own", `
		begin 0 => done 1
		put 0 1 10 => done
		commit 0 => done 1
		begin 7 => done 2
		begin 0 => done 3
		put 0 1 11 => done 1
		commit 0 => done 3
		begin 6 => done 4
		begin 0 => done 5
		put 0 1 12 => done 1
		commit 0 => done 5
		begin 5 => done 6
		begin 0 => done 7
		delete 0 1 => done
		commit 0 => done 7
		begin 4 => done 8
		get 7 1 => done is 10
		get 6 1 => done is 11
		get 5 1 => done is 12
		get 4 1 => none
	`)
}

// A -0 is the key +0, and stays a -0 as a value; all NaNs are one key.
func TestKeysAreTakenClean(t *testing.T) {
	for _, begin := range []string{"begin", "order"} {
		p := wantPlay(t, "noughts", begin+` 0 => done 1
			put 0 f-0 f-0 => done
			get 0 f0 => done is f-0
			get 0 f-0 => done is f-0
			put 0 f0 f0 => done 1
			get 0 f-0 => done is f0
			scan 0 f-0 f-0 5 => done 1 f0=f0
			total 0 f-0 f0 => done 1
			put 0 fnan fnan => done
			get 0 fnan => done is fNaN
			scan 0 f-0 fnan 5 => done 2 f0=f0 fNaN=fNaN
			total 0 fnan fnan => done 1 sum NaN
			delete 0 f-0 => done
			get 0 f0 => none
			delete 0 f-0 => none
		`)
		s := p.Db.Seats[0]
		for _, key := range s.Writes {
			if !impl.KeyOk(key) {
				t.Errorf("%v is among the Writes", key)
			}
		}
		for _, span := range s.Reads {
			if !impl.SpanOk(span) {
				t.Errorf("%v is among the Reads", span)
			}
		}
		if len(s.Writes) != 4 {
			t.Errorf("the Writes are %v", s.Writes)
		}
	}
	other := math.Float64frombits(strangeNaNs()[3])
	p := impl.LiveRun([]impl.Op{{Kind: opBegin}, {Kind: opPut, Key: floatItem(other), Value: intItem(1)}, {Kind: opPut, Key: floatItem(plainNaN()), Value: intItem(2)}, {Kind: opGet, Key: floatItem(other)}})
	if !slices.Equal(codesOf(p), sameOf(4, rpDone)) || p.Replies[2].N != 1 || p.Replies[3].Value.N != 2 {
		t.Errorf("NaNs: %v", p.Replies)
	}
}

const someRows = `
	begin 0 => done 1
	put 0 9 t9 => done
	put 0 3 f3 => done
	put 0 tb f0.25 => done
	put 0 f2 f10 => done
	put 0 -4 7 => done
	put 0 t f-0 => done
	put 0 f-2 t => done
	put 0 5 f0.5 => done
	commit 0 => done 1
`

func TestScansByTheirKeys(t *testing.T) {
	for _, begin := range []string{"begin", "order"} {
		wantPlay(t, "spans", someRows+begin+` 1 => done 2
			scan 1 -4 tb 50 => done 8 -4=7 3=f3 5=f0.5 9=t9 f-2=t f2=f10 t=f-0 tb=f0.25
			scan 1 -4 tb 9 => done 8 -4=7 3=f3 5=f0.5 9=t9 f-2=t f2=f10 t=f-0 tb=f0.25
			scan 1 -4 tb 8 => done 8 -4=7 3=f3 5=f0.5 9=t9 f-2=t f2=f10 t=f-0 tb=f0.25
			scan 1 -4 tb 7 => done 8 -4=7 3=f3 5=f0.5 9=t9 f-2=t f2=f10 t=f-0
			scan 1 -4 tb 1 => done 8 -4=7
			scan 1 -4 tb 0 => done 8
			scan 1 -3 ta 50 => done 6 3=f3 5=f0.5 9=t9 f-2=t f2=f10 t=f-0
			scan 1 3 9 2 => done 3 3=f3 5=f0.5
			scan 1 3 9 3 => done 3 3=f3 5=f0.5 9=t9
			scan 1 4 8 3 => done 1 5=f0.5
			scan 1 6 8 3 => done
			scan 1 5 5 3 => done 1 5=f0.5
			scan 1 10 f-3 3 => done
			scan 1 9 f-2 3 => done 2 9=t9 f-2=t
			scan 1 f2 t 3 => done 2 f2=f10 t=f-0
			scan 1 tb ta 3 => done
			scan 1 9 3 50 => done
			scan 1 t 9 50 => done
		`)
	}
	wantPlay(t, "nothing there", "begin 0 => done 1\nscan 0 1 tz 50 => done\nscan 0 2 1 0 => done")
}

func TestScansTellWhatIsVisible(t *testing.T) {
	wantPlay(t, "its own and those of others", someRows+`
		begin 1 => done 2
		begin 2 => done 3
		put 1 4 1 => done
		put 1 3 2 => done 1
		delete 1 9 => done
		put 2 6 1 => done
		delete 2 5 => done
		scan 1 -9 99 50 => done 4 -4=7 3=2 4=1 5=f0.5
		scan 2 -9 99 50 => done 4 -4=7 3=f3 6=1 9=t9
		commit 1 => done 2
		scan 2 -9 99 50 => done 4 -4=7 3=f3 6=1 9=t9
		begin 1 => done 4
		scan 1 -9 99 50 => done 4 -4=7 3=2 4=1 5=f0.5
		put 1 4 2 => done 1
		scan 1 -9 99 2 => done 4 -4=7 3=2
		abort 1 => done
		abort 2 => done
		begin 3 => done 5
		scan 3 -9 99 50 => done 4 -4=7 3=2 4=1 5=f0.5
	`)
}

// MaxRows are told at most, however many there are.
func TestScansOfManyRows(t *testing.T) {
	for _, n := range []int{49, 50, 51, 120} {
		ops := []impl.Op{{Kind: opBegin}}
		for i := range n {
			ops = append(ops, impl.Op{Kind: opPut, Key: intItem(i * 7 % 121), Value: intItem(i)})
		}
		ops = append(ops, impl.Op{Kind: opScan, Key: intItem(0), To: intItem(121), N: 50}, impl.Op{Kind: opScan, Key: intItem(0), To: intItem(121), N: 49})
		p := wantAsPlainly(t, fmt.Sprint(n, " rows"), ops)
		last := p.Replies[len(p.Replies)-2]
		if last.N != n || len(last.Rows) != min(n, 50) || len(p.Replies[len(p.Replies)-1].Rows) != min(n, 49) {
			t.Errorf("%d rows: N is %d, %d are told", n, last.N, len(last.Rows))
		}
		for i := 1; i < len(last.Rows); i++ {
			if last.Rows[i-1].Key.N >= last.Rows[i].Key.N {
				t.Errorf("%d rows: %v are not ascending", n, last.Rows)
			}
		}
	}
}

func TestTotalsPlainly(t *testing.T) {
	for _, begin := range []string{"begin", "order"} {
		wantPlay(t, "floats beside other values", someRows+begin+` 1 => done 2
			total 1 -4 tb => done 5 sum 13.75
			total 1 3 5 => done 2 sum 3.5
			total 1 9 9 => done
			total 1 -4 -4 => done
			total 1 t t => done 1
			total 1 t tb => done 2 sum 0.25
			total 1 5 3 => done
			total 1 tb -4 => done
			total 1 6 8 => done
		`)
	}
	for _, of := range []struct {
		name   string
		values []float64
		want   float64
	}{
		{"none", nil, 0},
		{"one", []float64{1.5}, 1.5},
		{"-0 alone", []float64{minusNought()}, 0},
		{"-0 twice", []float64{minusNought(), minusNought()}, 0},
		{"an infinity", []float64{1, math.Inf(1), 2}, math.Inf(1)},
		{"an infinity below 0", []float64{1, math.Inf(-1), -2}, math.Inf(-1)},
		{"infinities against each other", []float64{math.Inf(1), math.Inf(-1)}, plainNaN()},
		{"a NaN", []float64{1, plainNaN(), 2}, plainNaN()},
		{"another NaN", []float64{math.Float64frombits(strangeNaNs()[0])}, plainNaN()},
		{"past the greatest", []float64{math.MaxFloat64, math.MaxFloat64, -math.MaxFloat64}, math.Inf(1)},
		{"in their order", []float64{1e300, -1e300, 1}, 1},
		{"in their order", []float64{1, 1e300, -1e300}, 0},
		{"in their order", []float64{1e16, 1, 1, -1e16}, 0},
		{"the least", []float64{math.SmallestNonzeroFloat64, math.SmallestNonzeroFloat64}, 2 * math.SmallestNonzeroFloat64},
	} {
		for _, level := range []int{0, 1} {
			for _, isTurned := range []bool{false, true} {
				ops := []impl.Op{{Kind: opBegin, Level: level}}
				for i, f := range of.values {
					ops = append(ops, impl.Op{Kind: opPut, Key: intItem(10 * i), Value: floatItem(f)}, impl.Op{Kind: opPut, Key: intItem(10*i + 1), Value: intItem(1000)}, impl.Op{Kind: opPut, Key: intItem(10*i + 2), Value: textItem("5")})
				}
				if isTurned {
					slices.Reverse(ops[1:])
				}
				ops = append(ops, impl.Op{Kind: opTotal, Key: intItem(0), To: intItem(999)})
				p := impl.LiveRun(ops)
				want := impl.Reply{Kind: opTotal, N: len(of.values), Total: of.want}
				if got := p.Replies[len(p.Replies)-1]; !sameReply(got, want) {
					t.Errorf("%s: %q, want %q", of.name, wordsOf(got), wordsOf(want))
				}
			}
		}
	}
}

// Values of all kinds come back as they were put, under keys of all kinds.
func TestValuesComeBack(t *testing.T) {
	values := rightValues()
	keys := risingKeys()
	for i := range len(values) {
		key, value := keys[i*5%len(keys)], values[i]
		p := impl.LiveRun([]impl.Op{
			{Kind: opBegin}, {Kind: opPut, Key: key, Value: value}, {Kind: opGet, Key: key}, {Kind: opCommit},
			{Kind: opBegin, Seat: 1, Level: 1}, {Kind: opGet, Seat: 1, Key: key}, {Kind: opScan, Seat: 1, Key: keys[0], To: keys[len(keys)-1], N: 2},
		})
		if !slices.Equal(codesOf(p), sameOf(7, rpDone)) || !sameItem(p.Replies[2].Value, value) || !sameItem(p.Replies[5].Value, value) {
			t.Errorf("%s: %v", wordOf(value), p.Replies)
		}
		if rows := p.Replies[6].Rows; len(rows) != 1 || !sameItem(rows[0].Key, key) || !sameItem(rows[0].Value, value) {
			t.Errorf("%s: the rows are %v", wordOf(value), rows)
		}
	}
}

// What Level 1 reads is kept, as often as it is read; Level 0 keeps nothing of it.
func TestReadsAreKeptByLevel1Alone(t *testing.T) {
	script := `
		get 0 5
		get 0 5
		scan 0 f-0 ta 3
		scan 0 9 3 5
		total 0 1 tz
		total 0 tz 1
		delete 0 7
		get 0 5
	`
	p := impl.LiveRun(opsOf(t, "begin 0\n"+script))
	wantSeat(t, "Level 0", p.Db.Seats[0], impl.Seat{Open: true, Begun: 1, Snap: snapOf(1)})
	if len(p.Db.Tracks) != 0 {
		t.Errorf("Level 0 has tracks: %v", p.Db.Tracks)
	}
	reads := []impl.Span{spanOf(5, 5), spanOf(5, 5), {From: floatItem(0), To: textItem("a")}, {From: intItem(1), To: textItem("z")}, spanOf(7, 7), spanOf(5, 5)}
	p = impl.LiveRun(opsOf(t, "order 0\n"+script))
	wantSeat(t, "Level 1", p.Db.Seats[0], impl.Seat{Open: true, Level: 1, Begun: 1, Snap: snapOf(1), Reads: reads})
	if !sameTracks(p.Db.Tracks, tracksOf(withSpans(active(1, 1), reads...))) {
		t.Errorf("the tracks are %v", p.Db.Tracks)
	}
	p = impl.LiveRun(opsOf(t, "order 0\n"+script+"get 0 8"))
	wantSeat(t, "one read more than a track keeps", p.Db.Seats[0], impl.Seat{Open: true, Level: 1, Begun: 1, Snap: snapOf(1), Reads: append(reads, spanOf(8, 8))})
	if !sameTracks(p.Db.Tracks, tracksOf(withAll(active(1, 1)))) {
		t.Errorf("the tracks are %v", p.Db.Tracks)
	}
}

// A read by which its transaction stands between two others is not told, and no more of it is kept.
func TestReadsThatAreADanger(t *testing.T) {
	// T2 read 1, which T1 is to write; it then reads what T3 wrote.
	between := `
		order 0 => done 1
		order 1 => done 2
		order 2 => done 3
		put 2 2 5 => done
		get 1 1 => none
		get 0 2 => none
		put 1 3 3 => done
		get 0 3 => none
	`
	for _, read := range []string{"get 1 2", "scan 1 0 9 9", "scan 1 2 2 0", "total 1 2 4", "delete 1 4 => none\nget 1 2"} {
		p := wantPlay(t, read, between+read+" => serial")
		wantSeat(t, read, p.Db.Seats[1], impl.Seat{})
		if p.Db.List[2] != gone || plainActive(p.Db.Tracks, 2) >= 0 || p.Db.Clock != 4 || len(p.Db.Tracks) != 2 {
			t.Errorf("%s: the list is %v, the tracks are %v", read, p.Db.List, p.Db.Tracks)
		}
	}
	for _, read := range []string{"get 1 1 => none", "get 1 4 => none", "scan 1 4 9 9 => done", "scan 1 9 0 9 => done", "total 1 9 2 => done", "total 1 3 9 => done"} {
		p := wantPlay(t, read, between+read)
		if !p.Db.Seats[1].Open {
			t.Errorf("%s: given up", read)
		}
	}
}

// A delete of what is not there reads, too: who writes it later is read past, and it is a danger where a read is one.
func TestADeleteOfNothingIsARead(t *testing.T) {
	p := wantPlay(t, "of what nobody writes", `
		order 0 => done 1
		order 1 => done 2
		put 1 3 3 => done
		delete 1 4 => none
		delete 1 4 => none
		put 0 4 1 => done
		commit 1 => done 2
	`)
	wantDeed := impl.Deed{Xid: 2, Begun: 2, Ended: 3, Reads: spansOf(4, 4), Writes: intItems(3)}
	if len(p.Db.Deeds) != 1 || !sameDeed(p.Db.Deeds[0], wantDeed) {
		t.Errorf("the deeds are %v, want %v", p.Db.Deeds, wantDeed)
	}
	want := tracksOf(withMarks(withWrites(active(1, 1), 4), true, false), withMarks(withWrites(withReads(ended(2, 2, 3), 4, 4), 3), false, true))
	if !sameTracks(p.Db.Tracks, want) {
		t.Errorf("the tracks are %v, want %v", p.Db.Tracks, want)
	}
	marked := `
		order 0 => done 1
		order 1 => done 2
		order 2 => done 3
		put 1 3 3 => done
		get 1 1 => none
		get 0 3 => none
		put 2 1 1 => done
	`
	p = wantPlay(t, "a danger", marked+"delete 1 4 => serial\ncommit 0 => done 1\ncommit 2 => done 3")
	wantSeat(t, "a danger", p.Db.Seats[1], impl.Seat{})
	wantPlay(t, "a delete of what is there is a write", marked+"delete 1 3 => serial")
	wantPlay(t, "no read", marked+"scan 1 9 8 7 => done\ntotal 1 9 8 => done\nabort 1 => done")
	wantPlay(t, "Level 0 reads past nothing", "begin 1 => done 1\norder 0 => done 2\ndelete 1 4 => none\nput 0 4 1 => done\ncommit 0 => done 2")
}
