package tests

import (
	"math"
	"testing"
)

func TestVisiblePlainly(t *testing.T) {
	s := snapOf(6, 2, 4)
	l := []int{done, done, done, gone, done, done, running, done}
	for _, c := range []struct {
		name       string
		xmin, xmax int
		want       bool
	}{
		{"seen, nobody took its place", 1, 0, true},
		{"seen, who took its place is not: it ran", 1, 2, true},
		{"seen, who took its place is not: it is gone", 1, 3, true},
		{"seen, who took its place is not: it began later", 1, 7, true},
		{"seen, who took its place is seen", 1, 5, false},
		{"seen, who took its place is itself", 1, 6, false},
		{"seen, written and taken by one", 5, 5, false},
		{"not seen: it ran", 2, 0, false},
		{"not seen: it is gone", 3, 0, false},
		{"not seen: it began later", 7, 0, false},
		{"not seen, nor who took its place", 2, 4, false},
		{"not seen, nor who took its place, later", 7, 8, false},
		{"not seen, but who took its place", 2, 5, false},
		{"not seen, but who took its place: itself", 3, 6, false},
		{"its own", 6, 0, true},
		{"its own, its place taken by one that ran", 6, 4, true},
		{"its own, its place taken by one that is gone", 6, 3, true},
		{"its own, its place taken by a later one", 6, 7, true},
		{"its own, its place taken by one that it sees", 6, 1, false},
		{"its own, its place taken by itself", 6, 6, false},
		{"nobody's", 0, 0, false},
		{"nobody's, its place taken", 0, 1, false},
		{"below 0", -1, 0, false},
		{"its place taken by a number below 0", 1, -1, true},
		{"its place taken by a number far out", 1, math.MaxInt, true},
		{"its place taken by a number far below 0", 1, math.MinInt, true},
	} {
		wantVisible(t, c.name, s, l, c.xmin, c.xmax, c.want)
	}
}

func TestVisibleWhereNobodyTookThePlace(t *testing.T) {
	for _, number := range append(threeStatuses(), noStatuses()...) {
		l := sameOf(mostStatuses, done)
		l[0] = number
		for _, n := range rightSnaps() {
			for xid := -1; xid <= n.s.Self+2; xid++ {
				wantVisible(t, n.name, n.s, l, xid, 0, plainSees(n.s, l, xid))
			}
		}
	}
}

func TestVisibleOfItsOwnWhateverTheStatusesSay(t *testing.T) {
	for _, n := range rightSnaps() {
		self := n.s.Self
		for _, number := range append(threeStatuses(), noStatuses()...) {
			l := sameOf(mostStatuses, number)
			wantVisible(t, n.name+", its own", n.s, l, self, 0, true)
			wantVisible(t, n.name+", its own, taken by itself", n.s, l, self, self, false)
			wantVisible(t, n.name+", its own, taken by a later one", n.s, l, self, self+1, true)
			wantVisible(t, n.name+", a later one's", n.s, l, self+1, 0, false)
		}
		wantVisible(t, n.name+", no statuses", n.s, nil, self, 0, true)
		wantVisible(t, n.name+", no statuses, taken by itself", n.s, nil, self, self, false)
	}
}

func TestVisibleToNoneThatIsNotOk(t *testing.T) {
	l := sameOf(mostStatuses+20, done)
	numbers := []int{-2, -1, 0, 1, 2, 3, 5, 8, 9, 10, lastXid - 1, lastXid, lastXid + 1, math.MaxInt, math.MinInt}
	for _, n := range wrongSnaps() {
		for _, xmin := range append(numbers, n.s.Self) {
			for _, xmax := range append(numbers, n.s.Self) {
				wantVisible(t, n.name, n.s, l, xmin, xmax, false)
			}
		}
	}
}

func TestVisibleIsAsTheDocumentSays(t *testing.T) {
	for seed := range uint64(150) {
		s, l := someSnap(int(seed)%25+1, seed), someSays(int(seed*17)%30, seed+3)
		for xmin := -1; xmin <= s.Self+2; xmin++ {
			for xmax := -1; xmax <= s.Self+2; xmax++ {
				wantVisible(t, "some snapshot", s, l, xmin, xmax, plainVisible(s, l, xmin, xmax))
			}
		}
	}
}
