package tests

import (
	"math"
	"slices"
	"testing"

	"loop.example/g00252/impl"
)

func TestSeesPlainly(t *testing.T) {
	s := snapOf(6, 2, 4)
	l := []int{0, done, done, gone, running, running, done, done}
	for xid, want := range []bool{false, true, false, false, false, false, true, false, false} {
		wantSees(t, "a plain list", s, l, xid, want)
	}
}

func TestSeesItselfWhateverTheStatusesSay(t *testing.T) {
	for _, n := range rightSnaps() {
		for _, number := range append(threeStatuses(), noStatuses()...) {
			wantSees(t, n.name+", all alike", n.s, sameOf(mostStatuses, number), n.s.Self, true)
			wantSees(t, n.name+", a longer list", n.s, sameOf(mostStatuses+9, number), n.s.Self, true)
			wantSees(t, n.name+", no place of the list", n.s, sameOf(n.s.Self, number), n.s.Self, true)
		}
		wantSees(t, n.name+", no statuses", n.s, nil, n.s.Self, true)
	}
}

func TestSeesNobodyOutOfItsNumbers(t *testing.T) {
	l := sameOf(mostStatuses+50, done)
	for _, n := range rightSnaps() {
		for _, xid := range []int{0, -1, -2, -n.s.Self, math.MinInt, math.MaxInt, lastXid + 1, n.s.Self + 1, n.s.Self + 2, n.s.Self + 1<<32} {
			wantSees(t, n.name, n.s, l, xid, false)
		}
	}
	for _, self := range someXids() {
		wantSees(t, "the first", snapOf(self), l, 1, true)
		wantSees(t, "the one ahead", snapOf(self), l, self-1, self > 1)
		wantSees(t, "the one behind", snapOf(self), l, self+1, false)
	}
}

func TestSeesNobodyWhoRan(t *testing.T) {
	l := sameOf(mostStatuses, done)
	s := snapOf(20, 3, 4, 9, 15, 19)
	for xid := 1; xid <= 20; xid++ {
		ran := xid == 3 || xid == 4 || xid == 9 || xid == 15 || xid == 19
		wantSees(t, "five ran", s, l, xid, !ran)
	}
	for ran := 1; ran < lastXid; ran++ {
		one := snapOf(lastXid, ran)
		wantSees(t, "who ran", one, l, ran, false)
		wantSees(t, "the one ahead of it", one, l, ran-1, ran > 1)
		wantSees(t, "the one behind it", one, l, ran+1, true)
	}
	all := snapOf(lastXid, upTo(1, lastXid-1)...)
	for xid := range lastXid + 2 {
		wantSees(t, "all ran", all, l, xid, xid == lastXid)
	}
}

func TestSeesWhoWasDoneAlone(t *testing.T) {
	for _, status := range threeStatuses() {
		l := sameOf(mostStatuses, status)
		for _, self := range someXids() {
			for xid := 1; xid < self; xid++ {
				wantSees(t, "all alike", snapOf(self), l, xid, status == done)
			}
		}
	}
	for _, number := range noStatuses() {
		l := []int{0, done, number, done}
		wantSees(t, "ahead of something else", snapOf(9), l, 1, true)
		wantSees(t, "something else", snapOf(9), l, 2, false)
		wantSees(t, "behind something else", snapOf(9), l, 3, true)
	}
}

func TestSeesNobodyBehindTheList(t *testing.T) {
	room := sameOf(mostStatuses, done)
	for n := range 12 {
		for xid := 1; xid < 12; xid++ {
			wantSees(t, "a short list", snapOf(12), room[:n], xid, xid < n)
		}
	}
	wantSees(t, "no list", snapOf(12), nil, 1, false)
}

func TestSeesNothingWhereItIsNotOk(t *testing.T) {
	for _, n := range wrongSnaps() {
		for _, l := range [][]int{nil, {0, done, done}, sameOf(mostStatuses+20, done)} {
			for xid := -2; xid <= lastXid+20; xid++ {
				wantSees(t, n.name, n.s, l, xid, false)
			}
			wantSees(t, n.name+", Self", n.s, l, n.s.Self, false)
			for _, xid := range n.s.Running {
				wantSees(t, n.name+", Running", n.s, l, xid, false)
			}
		}
	}
}

func TestSeesIsAsTheDocumentSays(t *testing.T) {
	for seed := range uint64(300) {
		most := []int{3, 9, 40, lastXid}[seed%4]
		s, l := someSnap(most, seed), someSays(int(seed*31)%(most+5), seed+7)
		for xid := -2; xid <= s.Self+3; xid++ {
			wantSees(t, "some snapshot", s, l, xid, plainSees(s, l, xid))
		}
	}
}

// toldSnap is a snapshot and whom it saw when it began.
type toldSnap struct {
	s    impl.Snap
	seen []bool
}

func seenBy(s impl.Snap, l []int, most int) []bool {
	var seen []bool
	for xid := range most + 1 {
		seen = append(seen, impl.Sees(s, l, xid))
	}
	return seen
}

// What a snapshot says of the others is the same whenever it is asked, while they go on and end.
func TestSeesStaysAsItWasWhenItBegan(t *testing.T) {
	const most = 100
	var open []int
	var told []toldSnap
	l := []int{0}
	for _, x := range someBits(150, 5) {
		if at := int(x >> 32 % 12); at < len(open) {
			l, _ = impl.StatusSet(l, open[at], int(x%2)+1)
			open = slices.Delete(slices.Clone(open), at, at+1)
		} else {
			s := snapOf(len(l), open...)
			l = append(l, running)
			open = append(slices.Clone(open), s.Self)
			told = append(told, toldSnap{s, seenBy(s, l, most)})
		}
		for _, of := range told {
			if !slices.Equal(seenBy(of.s, l, most), of.seen) {
				t.Fatalf("%v sees others than when it began", of.s)
			}
		}
	}
	if len(l) > most || len(told) < 50 {
		t.Errorf("%d began", len(told))
	}
}
