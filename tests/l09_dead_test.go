package tests

import (
	"math"
	"testing"
)

func TestDeadPlainly(t *testing.T) {
	l := []int{gone, done, gone, running, done, running, gone, done}
	for _, c := range []struct {
		name                string
		xmin, xmax, horizon int
		want                bool
	}{
		{"xmin gone", 2, 0, 9, true},
		{"xmin gone, no horizon", 2, 0, 0, true},
		{"xmin gone, taken by one that runs", 2, 3, 9, true},
		{"xmin gone, taken by one that is gone", 2, 6, 9, true},
		{"xmin gone, taken by one that is done", 2, 4, 9, true},
		{"xmin gone, taken by one that is done, at horizon", 2, 4, 4, true},
		{"xmin gone, not below horizon", 6, 0, 6, true},
		{"xmin running", 3, 0, 9, false},
		{"xmin running, taken by itself", 3, 3, 9, false},
		{"xmin running, taken by one that is done", 3, 4, 9, true},
		{"xmin done", 1, 0, 9, false},
		{"xmin done, taken by one that is done, far below horizon", 1, 4, 9, true},
		{"xmin done, taken by one that is done, below horizon", 1, 4, 5, true},
		{"xmin done, taken by one that is done, at horizon", 1, 4, 4, false},
		{"xmin done, taken by one that is done, above horizon", 1, 4, 3, false},
		{"xmin done, taken by one that is gone", 1, 2, 9, false},
		{"xmin done, taken by one that runs", 1, 3, 9, false},
		{"xmin done, taken by itself", 4, 4, 5, true},
		{"xmin done, taken by itself, at horizon", 4, 4, 4, false},
		{"xmin is no place of the list", 8, 0, 9, false},
		{"xmin is no place of the list, taken", 8, 4, 9, true},
		{"xmax is no place of the list", 1, 8, 9, false},
		{"nobody's, whatever stands at the place 0", 0, 0, 9, false},
		{"nobody's, taken", 0, 4, 9, true},
		{"below 0", -1, -1, 9, false},
		{"horizon 0", 1, 4, 0, false},
		{"horizon below 0", 1, 4, -1, false},
		{"horizon far below 0", 1, 4, math.MinInt, false},
		{"horizon far out", 1, 4, math.MaxInt, true},
		{"horizon far out, nobody took it", 1, 0, math.MaxInt, false},
		{"horizon far out, a number below 0 took it", 1, -1, math.MaxInt, false},
	} {
		wantDead(t, c.name, l, c.xmin, c.xmax, c.horizon, c.want)
	}
}

func TestDeadOfThePlaceNought(t *testing.T) {
	for _, number := range append(threeStatuses(), noStatuses()...) {
		l := []int{number, done}
		wantDead(t, "xmin 0", l, 0, 0, 9, false)
		wantDead(t, "xmax 0", l, 1, 0, 9, false)
		wantDead(t, "xmin 0, xmax 1", l, 0, 1, 9, true)
	}
}

func TestDeadOfSomethingElse(t *testing.T) {
	for _, number := range noStatuses() {
		l := []int{0, number, done, gone}
		wantDead(t, "xmin is something else", l, 1, 0, 9, false)
		wantDead(t, "xmin and xmax are something else", l, 1, 1, 9, false)
		wantDead(t, "xmax is something else", l, 2, 1, 9, false)
		wantDead(t, "xmax is done", l, 1, 2, 9, true)
		wantDead(t, "xmin is gone", l, 3, 1, 9, true)
	}
}

func TestDeadOnBothSidesOfTheHorizon(t *testing.T) {
	l := sameOf(mostStatuses, done)
	for _, xmax := range someXids() {
		for horizon := xmax - 2; horizon <= xmax+2; horizon++ {
			wantDead(t, "all done", l, 1, xmax, horizon, xmax < horizon)
		}
	}
	wantDead(t, "the last, below the greatest horizon", l, 1, lastXid, lastXid+1, true)
	wantDead(t, "past the last", sameOf(mostStatuses+9, done), 1, lastXid+1, lastXid+5, false)
	wantDead(t, "past the last, gone", sameOf(mostStatuses+9, gone), lastXid+1, 0, 1, false)
}

func TestDeadDoesNotLookBehindTheList(t *testing.T) {
	wantDead(t, "gone behind the list", sameOf(9, gone)[:3], 3, 0, 9, false)
	wantDead(t, "gone in the list", sameOf(9, gone)[:4], 3, 0, 9, true)
	wantDead(t, "done behind the list", sameOf(9, done)[:3], 1, 3, 9, false)
	wantDead(t, "done in the list", sameOf(9, done)[:4], 1, 3, 9, true)
	wantDead(t, "no list", nil, 1, 2, 9, false)
}

func TestDeadIsAsTheDocumentSays(t *testing.T) {
	for seed := range uint64(60) {
		n := int(seed*13) % 20
		l := someSays(n, seed)
		for xmin := -1; xmin <= n+1; xmin++ {
			for xmax := -1; xmax <= n+1; xmax++ {
				for horizon := -1; horizon <= n+2; horizon++ {
					wantDead(t, "some statuses", l, xmin, xmax, horizon, plainDead(l, xmin, xmax, horizon))
				}
			}
		}
	}
}
