package tests

import (
	"fmt"
	"slices"
	"strings"
	"testing"

	"loop.example/g00252/impl"
)

func TestCommitPlainly(t *testing.T) {
	p := wantPlay(t, "Level 0 without Writes", "begin 3 => done 1\nget 3 5 => none\ncommit 3 => done 1")
	wantLogged(t, "Level 0 without Writes", p.Db)
	wantNumbers(t, "Level 0 without Writes", p.Db, 2, 2, 0, 1)
	wantSeat(t, "Level 0 without Writes", p.Db.Seats[3], impl.Seat{})
	if !slices.Equal(p.Db.List, []int{0, done}) || len(p.Db.Deeds) != 0 {
		t.Errorf("the list is %v, the deeds are %v", p.Db.List, p.Db.Deeds)
	}
	p = wantPlay(t, "Level 0 with Writes", "begin 3 => done 1\nget 3 5 => none\nput 3 5 1 => done\ncommit 3 => done 1")
	wantLogged(t, "Level 0 with Writes", p.Db, newImage(0), putOf(1, 0, 0, intItem(5), intItem(1)), commitOf(1))
	if !slices.Equal(p.Db.List, []int{0, done}) || len(p.Db.Deeds) != 0 || len(p.Db.Tracks) != 0 {
		t.Errorf("the list is %v, the deeds are %v", p.Db.List, p.Db.Deeds)
	}
	p = wantPlay(t, "Level 1 without Writes", "order 3 => done 1\nget 3 5 => none\nscan 3 1 9 1 => done\ncommit 3 => done 1")
	wantLogged(t, "Level 1 without Writes", p.Db)
	if want := (impl.Deed{Xid: 1, Begun: 1, Ended: 2, Reads: []impl.Span{spanOf(5, 5), spanOf(1, 9)}}); len(p.Db.Deeds) != 1 || !sameDeed(p.Db.Deeds[0], want) || len(p.Db.Tracks) != 0 {
		t.Errorf("the deeds are %v, the tracks %v", p.Db.Deeds, p.Db.Tracks)
	}
	p = wantPlay(t, "Level 1 with Writes", "begin 2 => done 1\norder 3 => done 2\nput 3 5 1 => done\nput 3 5 2 => done 1\nget 3 5 => done is 2\ndelete 3 5 => done\ncommit 3 => done 2")
	wantLogged(t, "Level 1 with Writes", p.Db, newImage(0), putOf(2, 0, 0, intItem(5), intItem(1)), markOf(2, 0, 0), putOf(2, 0, 1, intItem(5), intItem(2)), markOf(2, 0, 1), commitOf(2))
	if want := (impl.Deed{Xid: 2, Begun: 2, Ended: 3, Reads: spansOf(5), Writes: intItems(5, 5, 5)}); len(p.Db.Deeds) != 1 || !sameDeed(p.Db.Deeds[0], want) {
		t.Errorf("the deeds are %v", p.Db.Deeds)
	}
	wantSeat(t, "Level 1 with Writes", p.Db.Seats[3], impl.Seat{})
	p = wantPlay(t, "a delete of nothing alone is no Write", "begin 0 => done 1\ndelete 0 5 => none\ncommit 0 => done 1")
	wantLogged(t, "a delete of nothing", p.Db)
}

func TestAbortPlainly(t *testing.T) {
	for _, begin := range []string{"begin", "order"} {
		p := wantPlay(t, "abort", begin+" 3 => done 1\nput 3 5 1 => done\nget 3 6 => none\nabort 3 => done")
		wantLogged(t, "abort", p.Db, newImage(0), putOf(1, 0, 0, intItem(5), intItem(1)))
		wantNumbers(t, "abort", p.Db, 2, 2, 0, 3)
		wantSeat(t, "abort", p.Db.Seats[3], impl.Seat{})
		if !slices.Equal(p.Db.List, []int{0, gone}) || len(p.Db.Deeds) != 0 || len(p.Db.Tracks) != 0 {
			t.Errorf("the list is %v, the deeds are %v, the tracks %v", p.Db.List, p.Db.Deeds, p.Db.Tracks)
		}
		wantHeap(t, "abort", p.Db.Heap, true, heapOf(pageWith(2, tupleBy(1, 0, intItem(5), intItem(1)))))
		wantTreeOfRows(t, "abort", p.Db)
		wantCommitted(t, "abort", p.Db, "")
	}
}

// Deeds stand in the order of their ends, by numbers of the Clock; those of Level 0 do not stand there.
func TestDeedsStandInTheOrderOfTheirEnds(t *testing.T) {
	p := wantPlay(t, "deeds", `
		order 0 => done 1
		begin 1 => done 2
		order 2 => done 3
		order 3 => done 4
		put 2 5 1 => done
		commit 2 => done 3
		put 1 6 1 => done
		commit 1 => done 2
		abort 3 => done
		get 0 9 => none
		commit 0 => done 1
		order 5 => done 5
		commit 5 => done 5
	`)
	want := []impl.Deed{
		{Xid: 3, Begun: 3, Ended: 5, Writes: intItems(5)},
		{Xid: 1, Begun: 1, Ended: 8, Reads: spansOf(9)},
		{Xid: 5, Begun: 9, Ended: 10},
	}
	if !slices.EqualFunc(p.Db.Deeds, want, sameDeed) {
		t.Errorf("the deeds are %v, want %v", p.Db.Deeds, want)
	}
	if !slices.Equal(p.Db.List, []int{0, done, done, done, gone, done}) {
		t.Errorf("the list is %v", p.Db.List)
	}
}

// Who is given up by its commit leaves no deed and no record.
func TestCommitsThatAreADanger(t *testing.T) {
	script := `
		order 0 => done 1
		order 1 => done 2
		get 0 1 => none
		get 1 2 => none
		put 0 2 1 => done
		put 1 1 1 => serial
	`
	p := wantPlay(t, "a skew", script+"commit 0 => serial")
	if len(p.Db.Deeds) != 0 || len(p.Db.Tracks) != 0 || !slices.Equal(p.Db.List, []int{0, gone, gone}) {
		t.Errorf("the deeds are %v, the tracks %v, the list %v", p.Db.Deeds, p.Db.Tracks, p.Db.List)
	}
	wantLogged(t, "a skew", p.Db, newImage(0), putOf(1, 0, 0, intItem(2), intItem(1)))
	wantNumbers(t, "a skew", p.Db, 3, 4, 0, 3)
	wantSeat(t, "a skew", p.Db.Seats[0], impl.Seat{})
	wantCommitted(t, "a skew", p.Db, "")
	wantPlay(t, "an abort is none", script+"abort 0 => done")
	wantPlay(t, "with one mark alone", "order 0 => done 1\norder 1 => done 2\nget 0 1 => none\nput 1 1 1 => done\ncommit 1 => done 2\ncommit 0 => done 1")
	wantPlay(t, "of Level 0", strings.NewReplacer("order", "begin", "serial", "done").Replace(script)+"commit 0 => done 1\ncommit 1 => done 2")
	wantPlay(t, "of one that only read", `
		order 0 => done 1
		order 1 => done 2
		put 0 1 1 => done
		get 1 2 => none
		get 1 1 => none
		put 0 2 1 => done
		commit 0 => done 1
		commit 1 => done 2
	`)
}

func TestTracksGoWithTheOldest(t *testing.T) {
	p := wantPlay(t, "the oldest runs", "order 0 => done 1\norder 1 => done 2\ncommit 1 => done 2\norder 1 => done 3\nabort 1 => done")
	if !sameTracks(p.Db.Tracks, tracksOf(active(1, 1), ended(2, 2, 3))) {
		t.Errorf("the tracks are %v", p.Db.Tracks)
	}
	p = wantPlay(t, "the oldest ended", "order 0 => done 1\norder 1 => done 2\ncommit 1 => done 2\norder 1 => done 3\ncommit 0 => done 1")
	if !sameTracks(p.Db.Tracks, tracksOf(ended(1, 1, 5), active(3, 4))) {
		t.Errorf("the tracks are %v", p.Db.Tracks)
	}
	p = wantPlay(t, "Level 0 holds no tracks", "begin 0 => done 1\norder 1 => done 2\ncommit 1 => done 2")
	if len(p.Db.Tracks) != 0 {
		t.Errorf("the tracks are %v", p.Db.Tracks)
	}
}

func TestDeadlocksOfTwo(t *testing.T) {
	for _, begin := range []string{"begin", "order"} {
		p := wantPlay(t, "a ring of two", begin+` 0 => done 1
			`+begin+` 1 => done 2
			put 0 1 10 => done
			put 1 2 20 => done
			put 0 2 11 => wait 2
			put 1 1 21 => deadlock; 0 put done
			commit 0 => done 1
		`)
		wantCommitted(t, "a ring of two", p.Db, "1=10 2=11")
		wantNumbers(t, "a ring of two", p.Db, 3, 4, 1, 6)
		if !slices.Equal(p.Db.List, []int{0, done, gone}) {
			t.Errorf("the list is %v", p.Db.List)
		}
		wantSeat(t, "a ring of two", p.Db.Seats[1], impl.Seat{})
	}
	wantPlay(t, "of deletes", `
		begin 7 => done 1
		put 7 1 1 => done
		put 7 2 2 => done
		commit 7 => done 1
		begin 0 => done 2
		begin 1 => done 3
		delete 0 1 => done
		delete 1 2 => done
		delete 1 1 => wait 2
		delete 0 2 => deadlock; 1 delete done
	`)
	wantPlay(t, "a wait that closes none", "begin 0 => done 1\nbegin 1 => done 2\nbegin 2 => done 3\nput 0 1 1 => done\nput 1 2 1 => done\nput 1 1 2 => wait 1\nput 2 2 2 => wait 2\nput 0 3 1 => done\ncommit 0 => done 1; 1 put conflict; 2 put done")
}

// A ring of n: each one waits for the one behind it, and the last one would wait for the first.
func TestDeadlocksOfMany(t *testing.T) {
	for n := 2; n <= mostSeats; n++ {
		script := ""
		for i := range n {
			script += fmt.Sprintf("begin %d => done %d\nput %d %d 1 => done\n", i, i+1, i, i)
		}
		for i := range n - 1 {
			script += fmt.Sprintf("put %d %d 2 => wait %d\n", i, i+1, i+2)
		}
		p := wantPlay(t, fmt.Sprint("a ring of ", n), script+fmt.Sprintf("put %d 0 2 => deadlock; %d put done", n-1, n-2))
		for i := range n - 2 {
			if s := p.Db.Seats[i]; s.Holder != i+2 || s.Since != i+1 {
				t.Errorf("a ring of %d: seat %d waits for %d since %d", n, i, s.Holder, s.Since)
			}
		}
		wantSeat(t, "the last one", p.Db.Seats[n-1], impl.Seat{})
		if s := p.Db.Seats[n-2]; n > 2 && (s.Holder != 0 || s.Since != 0 || !sameOp(s.Waits, impl.Op{}) || len(s.Writes) != 2) {
			t.Errorf("a ring of %d: the one that was waked is %v", n, s)
		}
		wantPlay(t, "no ring", script+fmt.Sprintf("put %d 99 2 => done", n-1))
	}
}

// Who is waked: in the order in which they came to wait, and not by their seats or keys.
func TestWakesInTheOrderOfTheWaits(t *testing.T) {
	script := `
		begin 3 => done 1
		begin 6 => done 2
		begin 0 => done 3
		begin 4 => done 4
		begin 1 => done 5
		put 3 1 1 => done
		put 3 2 1 => done
		put 3 3 1 => done
		put 3 4 1 => done
		put 4 3 40 => wait 1
		put 0 4 0 => wait 1
		delete 6 2 => wait 1
		put 1 1 10 => wait 1
	`
	p := wantPlay(t, "an abort", script+"abort 3 => done; 4 put done; 0 put done; 6 delete none; 1 put done")
	wantNumbers(t, "an abort", p.Db, 6, 6, 4, 9)
	for _, seat := range []int{0, 1, 4, 6} {
		if s := p.Db.Seats[seat]; !s.Open || s.Holder != 0 || s.Since != 0 || !sameOp(s.Waits, impl.Op{}) {
			t.Errorf("an abort: seat %d is %v", seat, s)
		}
	}
	p = wantPlay(t, "a commit", script+"commit 3 => done 1; 4 put conflict; 0 put conflict; 6 delete conflict; 1 put conflict")
	wantNumbers(t, "a commit", p.Db, 6, 10, 4, 7)
	for seat, s := range p.Db.Seats {
		wantSeat(t, fmt.Sprint("a commit, seat ", seat), s, impl.Seat{})
	}
	wantCommitted(t, "a commit", p.Db, "1=1 2=1 3=1 4=1")
}

// Who waits for one key: the first gets it, the others wait again, for that one, and behind each other as before.
func TestAWakedOpMayWaitAgain(t *testing.T) {
	script := `
		begin 0 => done 1
		begin 5 => done 2
		begin 3 => done 3
		begin 4 => done 4
		put 0 1 1 => done
		put 5 1 50 => wait 1
		put 3 1 30 => wait 1
		put 4 1 40 => wait 1
		abort 0 => done; 5 put done; 3 put wait 2; 4 put wait 2
	`
	p := wantPlay(t, "again", script)
	wantSeat(t, "again", p.Db.Seats[3], impl.Seat{Open: true, Begun: 3, Snap: snapOf(3, 1, 2), Waits: impl.Op{Kind: opPut, Seat: 3, Key: intItem(1), Value: intItem(30)}, Holder: 2, Since: 4})
	wantSeat(t, "again", p.Db.Seats[4], impl.Seat{Open: true, Begun: 4, Snap: snapOf(4, 1, 2, 3), Waits: impl.Op{Kind: opPut, Seat: 4, Key: intItem(1), Value: intItem(40)}, Holder: 2, Since: 5})
	p = wantPlay(t, "and again", script+"abort 5 => done; 3 put done; 4 put wait 3\nabort 3 => done; 4 put done\ncommit 4 => done 4")
	wantNumbers(t, "and again", p.Db, 5, 8, 6, 7)
	wantCommitted(t, "and again", p.Db, "1=40")
	wantPlay(t, "and a conflict", script+"commit 5 => done 2; 3 put conflict; 4 put conflict")
}

// Who waits again by a wake is minded when the next op would close a ring.
func TestRingsBehindAWake(t *testing.T) {
	wantPlay(t, "a ring of two", `
		begin 0 => done 1
		begin 1 => done 2
		begin 2 => done 3
		put 0 1 1 => done
		put 2 9 1 => done
		put 1 1 2 => wait 1
		put 2 1 3 => wait 1
		abort 0 => done; 1 put done; 2 put wait 2
		put 1 9 2 => deadlock; 2 put done
		commit 2 => done 3
	`)
	p := wantPlay(t, "with one that waits for the ring", `
		begin 0 => done 1
		begin 1 => done 2
		begin 2 => done 3
		begin 3 => done 4
		put 2 9 1 => done
		put 0 1 1 => done
		put 1 1 2 => wait 1
		put 2 1 3 => wait 1
		put 3 9 4 => wait 3
		abort 0 => done; 1 put done; 2 put wait 2
		put 1 9 9 => deadlock; 2 put done
		abort 2 => done; 3 put done
		commit 3 => done 4
	`)
	wantCommitted(t, "with one that waits for the ring", p.Db, "9=4")
}

// Those that end by a wake are waked for when all seats of the one ahead are through, in the order in which they ended.
func TestWakesOfThoseThatEndByAWake(t *testing.T) {
	script := `
		begin 0 => done 1
		begin 1 => done 2
		begin 2 => done 3
		begin 3 => done 4
		begin 4 => done 5
		begin 5 => done 6
		begin 6 => done 7
		put 0 1 1 => done
		put 0 2 1 => done
		put 1 3 1 => done
		put 2 4 1 => done
		put 3 5 1 => done
		put 4 3 2 => wait 2
		put 5 4 2 => wait 3
		put 3 4 3 => wait 3
		put 6 5 3 => wait 4
		put 2 2 2 => wait 1
		put 1 1 2 => wait 1
	`
	p := wantPlay(t, "by a commit", script+"commit 0 => done 1; 2 put conflict; 1 put conflict; 5 put done; 3 put wait 6; 4 put done")
	wantNumbers(t, "by a commit", p.Db, 8, 10, 7, 10)
	wantPlay(t, "and on", script+`
		commit 0 => done 1; 2 put conflict; 1 put conflict; 5 put done; 3 put wait 6; 4 put done
		commit 5 => done 6; 3 put conflict; 6 put done
		commit 6 => done 7
		commit 4 => done 5
	`)
	wantPlay(t, "three deep", `
		begin 0 => done 1
		begin 1 => done 2
		begin 2 => done 3
		begin 3 => done 4
		begin 4 => done 5
		put 0 1 1 => done
		put 1 2 1 => done
		put 2 3 1 => done
		put 3 4 1 => done
		put 4 4 2 => wait 4
		put 3 3 2 => wait 3
		put 2 2 2 => wait 2
		put 1 1 2 => wait 1
		commit 0 => done 1; 1 put conflict; 2 put done
		commit 2 => done 3; 3 put conflict; 4 put done
	`)
}

// Two that end by one wake, the one with the later Since first by its number: who ended first is waked for first.
func TestWakesGoByTheOrderOfTheEnds(t *testing.T) {
	wantPlay(t, "ends", `
		begin 0 => done 1
		begin 1 => done 2
		begin 2 => done 3
		begin 3 => done 4
		begin 4 => done 5
		put 0 1 1 => done
		put 1 2 1 => done
		put 2 3 1 => done
		put 3 2 3 => wait 2
		put 4 3 4 => wait 3
		put 2 1 2 => wait 1
		put 1 1 1 => wait 1
		commit 0 => done 1; 2 put conflict; 1 put conflict; 4 put done; 3 put done
	`)
	wantPlay(t, "each with several", `
		begin 0 => done 1
		begin 1 => done 2
		begin 2 => done 3
		begin 3 => done 4
		begin 4 => done 5
		begin 5 => done 6
		begin 6 => done 7
		put 0 1 1 => done
		put 1 2 1 => done
		put 1 3 1 => done
		put 2 4 1 => done
		put 2 5 1 => done
		put 3 2 3 => wait 2
		put 4 4 4 => wait 3
		put 5 5 5 => wait 3
		put 6 3 6 => wait 2
		delete 2 1 => wait 1
		delete 1 1 => wait 1
		commit 0 => done 1; 2 delete conflict; 1 delete conflict; 4 put done; 5 put done; 3 put done; 6 put done
	`)
}

// By whatever a transaction ends, those that wait for it are waked behind the reply to that.
func TestWakesByEachEnd(t *testing.T) {
	waits := "begin 7 => done 1\nput 7 8 1 => done\ncommit 7 => done 1\norder 0 => done 2\nbegin 1 => done 3\nput 0 1 1 => done\nput 1 1 2 => wait 2\n"
	wantPlay(t, "a commit", waits+"commit 0 => done 2; 1 put conflict")
	wantPlay(t, "an abort", waits+"abort 0 => done; 1 put done")
	wantPlay(t, "a conflict", waits+"begin 2 => done 4\nput 2 8 2 => done 1\ncommit 2 => done 4\nput 0 8 3 => conflict; 1 put done")
	wantPlay(t, "a ring", waits+"begin 2 => done 4\nput 2 3 1 => done\nput 1 3 1 => busy\nput 2 1 1 => wait 2\nput 0 3 1 => deadlock; 1 put done; 2 put wait 3")
	marked := waits + "order 3 => done 4\norder 4 => done 5\nget 0 6 => none\nget 3 1 => none\nput 4 6 1 => done\n"
	wantPlay(t, "a read that is a danger", marked+"get 0 9 => serial; 1 put done")
	wantPlay(t, "a scan that is a danger", marked+"scan 0 1 2 3 => serial; 1 put done")
	wantPlay(t, "a total that is a danger", marked+"total 0 1 2 => serial; 1 put done")
	wantPlay(t, "a write that is a danger", marked+"put 0 9 1 => serial; 1 put done")
	wantPlay(t, "a delete that is a danger", marked+"delete 0 9 => serial; 1 put done")
	wantPlay(t, "a commit that is a danger", marked+"commit 0 => serial; 1 put done")
	full := append(fullHeap(7), opsOf(t, "begin 0\nbegin 1\nput 0 1 1\nput 1 1 2\nput 0 t40*z t40*v")...)
	p := wantAsPlainly(t, "no place", full)
	if last := p.Replies[len(p.Replies)-2:]; last[0].Code != rpFull || last[1].Code != rpDone || last[1].Seat != 1 {
		t.Errorf("no place: %v", last)
	}
}

// A waked op of Level 1 may be a danger, or read that nothing is there.
func TestAWakedOpOfLevel1(t *testing.T) {
	p := wantPlay(t, "a danger", `
		order 0 => done 1
		order 1 => done 2
		order 2 => done 3
		put 0 1 1 => done
		get 2 5 => none
		put 1 5 1 => done
		get 1 6 => none
		put 1 1 2 => wait 1
		put 0 6 1 => done
		abort 0 => done; 1 put serial
		commit 2 => done 3
	`)
	wantSeat(t, "a danger", p.Db.Seats[1], impl.Seat{})
	p = wantPlay(t, "a delete of nothing", "order 0 => done 1\norder 1 => done 2\nput 0 1 1 => done\ndelete 1 1 => wait 1\nabort 0 => done; 1 delete none")
	wantSeat(t, "a delete of nothing", p.Db.Seats[1], impl.Seat{Open: true, Level: 1, Begun: 2, Snap: snapOf(2, 1), Reads: spansOf(1)})
	p = wantPlay(t, "a put that is tracked once it is done", "order 0 => done 1\norder 1 => done 2\nput 0 1 1 => done\nput 1 1 2 => wait 1")
	if want := tracksOf(withWrites(active(1, 1), 1), active(2, 2)); !sameTracks(p.Db.Tracks, want) {
		t.Errorf("the tracks are %v, want %v", p.Db.Tracks, want)
	}
	p = wantPlay(t, "a put that is tracked once it is done", "order 0 => done 1\norder 1 => done 2\nput 0 1 1 => done\nput 1 1 2 => wait 1\nabort 0 => done; 1 put done")
	if want := tracksOf(withWrites(active(2, 2), 1)); !sameTracks(p.Db.Tracks, want) {
		t.Errorf("the tracks are %v, want %v", p.Db.Tracks, want)
	}
}

// Seats are used again: nothing of who sat there ahead is left.
func TestSeatsAreUsedAgain(t *testing.T) {
	p := wantPlay(t, "again", `
		order 0 => done 1
		get 0 5 => none
		put 0 6 1 => done
		commit 0 => done 1
		begin 0 => done 2
		get 0 6 => done is 1
		put 0 6 2 => done 1
		abort 0 => done
		order 0 => done 3
		delete 0 6 => done
	`)
	wantSeat(t, "again", p.Db.Seats[0], impl.Seat{Open: true, Level: 1, Begun: 5, Snap: snapOf(3), Writes: intItems(6)})
	p = wantPlay(t, "behind a wait", "begin 0 => done 1\nbegin 1 => done 2\nput 0 5 1 => done\nput 1 5 2 => wait 1\ncommit 0 => done 1; 1 put conflict\nbegin 1 => done 3\nput 1 5 3 => done 1\nbegin 0 => done 4\ndelete 0 5 => wait 3\nabort 1 => done; 0 delete done\ncommit 0 => done 4")
	wantCommitted(t, "behind a wait", p.Db, "")
}
