package tests

import (
	"math"
	"slices"
	"testing"

	"loop.example/g00252/impl"
)

// snapOf is a snapshot with these running.
func snapOf(self int, running ...int) impl.Snap {
	return impl.Snap{Self: self, Running: running}
}

// upTo are the numbers from the first to the last.
func upTo(first int, last int) []int {
	var l []int
	for n := first; n <= last; n++ {
		l = append(l, n)
	}
	return l
}

// plainSnapOk is what the document says of SnapOk, word by word.
func plainSnapOk(s impl.Snap) bool {
	if s.Self < 1 || s.Self > lastXid || !slices.IsSorted(s.Running) {
		return false
	}
	if len(slices.Compact(slices.Clone(s.Running))) != len(s.Running) {
		return false
	}
	return !slices.ContainsFunc(s.Running, func(xid int) bool { return xid < 1 || xid >= s.Self })
}

func plainSees(s impl.Snap, l []int, xid int) bool {
	switch {
	case !plainSnapOk(s):
		return false
	case xid == s.Self:
		return true
	case xid < 1 || xid > s.Self-1 || slices.Contains(s.Running, xid):
		return false
	}
	return plainStatusOf(l, xid) == done
}

func plainVisible(s impl.Snap, l []int, xmin int, xmax int) bool {
	return plainSees(s, l, xmin) && !plainSees(s, l, xmax)
}

// plainHorizon puts all numbers together and takes the least.
func plainHorizon(l []impl.Snap, next int) int {
	if next < 1 || next > lastXid+1 || len(l) > lastXid {
		return 0
	}
	all := []int{next}
	for _, s := range l {
		if !plainSnapOk(s) {
			return 0
		}
		all = append(append(all, s.Self), s.Running...)
	}
	return slices.Min(all)
}

func plainDead(l []int, xmin int, xmax int, horizon int) bool {
	if plainStatusOf(l, xmin) == gone {
		return true
	}
	return plainStatusOf(l, xmax) == done && xmax < horizon
}

// namedSnap is a snapshot and what is to be said of it.
type namedSnap struct {
	name string
	s    impl.Snap
}

func rightSnaps() []namedSnap {
	return []namedSnap{
		{"the first", snapOf(1)},
		{"an empty list", impl.Snap{Self: 1, Running: []int{}}},
		{"the second", snapOf(2)},
		{"the second, the first runs", snapOf(2, 1)},
		{"nobody runs", snapOf(9)},
		{"the first runs", snapOf(9, 1)},
		{"the one ahead runs", snapOf(9, 8)},
		{"the first and the one ahead run", snapOf(9, 1, 8)},
		{"three run", snapOf(9, 2, 5, 7)},
		{"all run", snapOf(9, upTo(1, 8)...)},
		{"one less than the last", snapOf(lastXid-1, lastXid-2)},
		{"the last", snapOf(lastXid)},
		{"the last, one runs", snapOf(lastXid, lastXid-1)},
		{"the last, all run", snapOf(lastXid, upTo(1, lastXid-1)...)},
	}
}

// wrongSnaps are not SnapOk, each for one reason alone, if that can be.
func wrongSnaps() []namedSnap {
	return []namedSnap{
		{"the zero value", impl.Snap{}},
		{"Self 0, one runs", snapOf(0, 1)},
		{"Self -1", snapOf(-1)},
		{"Self -1, one runs", snapOf(-1, 1)},
		{"Self far below 0", snapOf(math.MinInt)},
		{"Self far below 0, one runs", snapOf(math.MinInt, 1, 2)},
		{"Self one more than MaxXid", snapOf(lastXid + 1)},
		{"Self one more than MaxXid, some run", snapOf(lastXid+1, 1, 7, lastXid)},
		{"Self far above MaxXid", snapOf(math.MaxInt, 1, 2)},
		{"two alike alone", snapOf(9, 4, 4)},
		{"two alike first", snapOf(9, 1, 1, 5)},
		{"two alike last", snapOf(9, 1, 5, 5)},
		{"two alike apart", snapOf(9, 3, 5, 3)},
		{"falling", snapOf(9, 5, 4)},
		{"falling first", snapOf(9, 3, 2, 7)},
		{"falling last", snapOf(9, 2, 7, 3)},
		{"falling to 1", snapOf(9, 8, 1)},
		{"the first 0", snapOf(9, 0)},
		{"the first 0, others behind", snapOf(9, 0, 1, 2)},
		{"the first -1", snapOf(9, -1)},
		{"the first -1, others behind", snapOf(9, -1, 3)},
		{"the first far below 0", snapOf(9, math.MinInt, 3)},
		{"the last is Self", snapOf(9, 9)},
		{"the last is Self, others ahead", snapOf(9, 1, 5, 9)},
		{"the last is above Self", snapOf(9, 10)},
		{"the last is above Self, others ahead", snapOf(9, 1, 8, 10)},
		{"the last is far above Self", snapOf(9, 1, math.MaxInt)},
		{"Self 1, 1 runs", snapOf(1, 1)},
		{"Self 1, 0 runs", snapOf(1, 0)},
		{"Self MaxXid, MaxXid runs", snapOf(lastXid, lastXid)},
		{"all run and Self too", snapOf(lastXid, upTo(1, lastXid)...)},
		{"0 and all run", snapOf(lastXid, upTo(0, lastXid-1)...)},
		{"one in the middle twice", snapOf(lastXid, append(upTo(1, 200), upTo(200, lastXid-1)...)...)},
		{"a list that is far too long", snapOf(lastXid, upTo(1, 5000)...)},
		{"numbers that wrap round", snapOf(9, 1, math.MaxInt, math.MinInt)},
	}
}

// someSnap is a snapshot of a Self of at most most, which looks like none in particular.
func someSnap(most int, seed uint64) impl.Snap {
	x := someBits(most+2, seed)
	s := impl.Snap{Self: int(x[0]%uint64(most)) + 1}
	for xid := 1; xid < s.Self; xid++ {
		if x[xid]%4 <= x[most+1]%4 {
			s.Running = append(s.Running, xid)
		}
	}
	return s
}

func cloneSnap(s impl.Snap) impl.Snap {
	return impl.Snap{Self: s.Self, Running: slices.Clone(s.Running)}
}

func someSnaps(n int, most int, seed uint64) []impl.Snap {
	var l []impl.Snap
	for _, x := range someBits(n, seed) {
		l = append(l, someSnap(most, x))
	}
	return l
}

// someSays is a list of n statuses of which some are none of the three.
func someSays(n int, seed uint64) []int {
	l := someStatuses(n, seed)
	for i, x := range someBits(n, seed+1) {
		if x%9 == 0 {
			l[i] = noStatuses()[x>>32%uint64(len(noStatuses()))]
		}
	}
	return l
}

func wantSees(t *testing.T, name string, s impl.Snap, l []int, xid int, want bool) {
	t.Helper()
	if got := impl.Sees(s, l, xid); got != want {
		t.Errorf("%s: Sees of %d by %d is %v, want %v (%d statuses)", name, xid, s.Self, got, want, len(l))
	}
}

func wantVisible(t *testing.T, name string, s impl.Snap, l []int, xmin int, xmax int, want bool) {
	t.Helper()
	if got := impl.Visible(s, l, xmin, xmax); got != want {
		t.Errorf("%s: Visible of %d, %d to %d is %v, want %v", name, xmin, xmax, s.Self, got, want)
	}
}

func wantHorizon(t *testing.T, name string, l []impl.Snap, next int, want int) {
	t.Helper()
	if got := impl.Horizon(l, next); got != want {
		t.Errorf("%s: Horizon of %d snapshots and %d is %d, want %d", name, len(l), next, got, want)
	}
}

func wantDead(t *testing.T, name string, l []int, xmin int, xmax int, horizon int, want bool) {
	t.Helper()
	if got := impl.Dead(l, xmin, xmax, horizon); got != want {
		t.Errorf("%s: Dead of %d, %d by %d is %v, want %v", name, xmin, xmax, horizon, got, want)
	}
}
