package tests

import (
	"math"
	"testing"

	"loop.example/g00252/impl"
)

func wantSnapOk(t *testing.T, name string, s impl.Snap, want bool) {
	t.Helper()
	if got := impl.SnapOk(s); got != want {
		t.Errorf("%s: SnapOk of %d and %d numbers is %v, want %v", name, s.Self, len(s.Running), got, want)
	}
}

func TestSnapOkOfRightAndWrong(t *testing.T) {
	for _, n := range rightSnaps() {
		wantSnapOk(t, n.name, n.s, true)
	}
	for _, n := range wrongSnaps() {
		wantSnapOk(t, n.name, n.s, false)
	}
}

func TestSnapOkEdgesOfSelf(t *testing.T) {
	if impl.MaxXid != lastXid {
		t.Errorf("MaxXid is %d", impl.MaxXid)
	}
	for _, self := range noXids() {
		wantSnapOk(t, "no number of a transaction", snapOf(self), false)
		wantSnapOk(t, "no number of a transaction, one runs", snapOf(self, 1), false)
	}
	for self := 1; self <= lastXid; self++ {
		wantSnapOk(t, "each number", snapOf(self), true)
	}
}

func TestSnapOkEdgesOfRunning(t *testing.T) {
	for _, self := range someXids() {
		wantSnapOk(t, "all run", snapOf(self, upTo(1, self-1)...), true)
		wantSnapOk(t, "Self runs too", snapOf(self, upTo(1, self)...), false)
		wantSnapOk(t, "0 runs too", snapOf(self, upTo(0, self-1)...), false)
		for xid := -3; xid <= self+3; xid++ {
			wantSnapOk(t, "one runs", snapOf(self, xid), xid >= 1 && xid < self)
		}
	}
	for _, xid := range []int{math.MinInt, math.MinInt + 1, math.MaxInt - 1, math.MaxInt} {
		wantSnapOk(t, "a number far out", snapOf(9, xid), false)
		wantSnapOk(t, "a number far out behind another", snapOf(9, 2, xid), false)
		wantSnapOk(t, "a number far out ahead of another", snapOf(9, xid, 2), false)
	}
}

func TestSnapOkOfEveryShortList(t *testing.T) {
	for self := -1; self <= 5; self++ {
		for a := -1; a <= 6; a++ {
			for b := -1; b <= 6; b++ {
				wantSnapOk(t, "two run", snapOf(self, a, b), plainSnapOk(snapOf(self, a, b)))
				for c := -1; c <= 6; c++ {
					wantSnapOk(t, "three run", snapOf(self, a, b, c), plainSnapOk(snapOf(self, a, b, c)))
				}
			}
		}
	}
}

func TestSnapOkDoesNotLookBehindTheList(t *testing.T) {
	room := []int{2, 5, 5, 1, 99}
	wantSnapOk(t, "room behind two", impl.Snap{Self: 9, Running: room[:2]}, true)
	wantSnapOk(t, "room behind none", impl.Snap{Self: 1, Running: room[:0]}, true)
	wantSnapOk(t, "the wrong one in the list", impl.Snap{Self: 9, Running: room[:3]}, false)
}

func TestSnapOkIsAsTheDocumentSays(t *testing.T) {
	for seed := range uint64(400) {
		s := someSnap(int(seed)%lastXid+1, seed)
		wantSnapOk(t, "some snapshot", s, true)
		for i, x := range someBits(len(s.Running), seed) {
			if x%5 == 0 {
				other := cloneSnap(s)
				other.Running[i] += int(x>>32%5) - 2
				wantSnapOk(t, "one number is another", other, plainSnapOk(other))
			}
		}
	}
}
