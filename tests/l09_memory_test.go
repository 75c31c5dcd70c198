package tests

import (
	"math"
	"slices"
	"testing"

	"loop.example/g00252/impl"
)

// guardedSnaps is a list of snapshots with marked room behind it and behind the Running of each.
type guardedSnaps struct {
	l       []impl.Snap
	want    []impl.Snap
	running []guardedNumbers
}

func guardSnaps(l []impl.Snap) *guardedSnaps {
	g := &guardedSnaps{}
	all := append(slices.Clone(l), snapOf(3, 2), snapOf(1), impl.Snap{})
	for i, s := range all {
		of := guardNumbers(s.Running)
		g.running = append(g.running, of)
		all[i].Running = of.l
	}
	for _, s := range all {
		g.want = append(g.want, cloneSnap(s))
	}
	g.l = all[:len(l)]
	return g
}

// check fails when a snapshot, the list or the room behind one are not as they were.
func (g *guardedSnaps) check(t *testing.T, name string) {
	t.Helper()
	for i, s := range g.l[:len(g.want)] {
		if s.Self != g.want[i].Self || !slices.Equal(s.Running, g.want[i].Running) {
			t.Errorf("%s: wrote into its snapshots or behind them", name)
		}
		g.running[i].check(t, name)
	}
}

// snapCall is one call that takes a snapshot and statuses; what it answers is told as a number.
type snapCall struct {
	name string
	do   func(s impl.Snap, l []int) int
}

func oneIf(is bool) int {
	if is {
		return 1
	}
	return 0
}

func seesCall(xid int) snapCall {
	return snapCall{"Sees", func(s impl.Snap, l []int) int { return oneIf(impl.Sees(s, l, xid)) }}
}

func visibleCall(xmin int, xmax int) snapCall {
	return snapCall{"Visible", func(s impl.Snap, l []int) int { return oneIf(impl.Visible(s, l, xmin, xmax)) }}
}

func deadCall(xmin int, xmax int, horizon int) snapCall {
	return snapCall{"Dead", func(s impl.Snap, l []int) int { return oneIf(impl.Dead(l, xmin, xmax, horizon)) }}
}

func snapCalls() []snapCall {
	calls := []snapCall{
		{"SnapOk", func(s impl.Snap, l []int) int { return oneIf(impl.SnapOk(s)) }},
		{"Sees of Self", func(s impl.Snap, l []int) int { return oneIf(impl.Sees(s, l, s.Self)) }},
		{"Visible of Self", func(s impl.Snap, l []int) int { return oneIf(impl.Visible(s, l, s.Self, 0)) }},
	}
	for _, xid := range []int{-1, 0, 1, 2, 3, 8, 9, lastXid, lastXid + 1} {
		calls = append(calls, seesCall(xid), visibleCall(xid, 0), visibleCall(1, xid), deadCall(xid, 0, 9), deadCall(1, xid, 9))
	}
	return calls
}

func TestSnapshotsLeaveTheirArguments(t *testing.T) {
	for _, n := range append(rightSnaps(), wrongSnaps()...) {
		for _, l := range memoryNumbers() {
			for _, c := range snapCalls() {
				g, says := guardSnaps([]impl.Snap{n.s}), guardNumbers(l)
				got := c.do(g.l[0], says.l)
				g.check(t, c.name+", "+n.name)
				says.check(t, c.name+", "+n.name)
				if plain := c.do(cloneSnap(n.s), slices.Clone(l)); got != plain {
					t.Errorf("%s, %s: room behind a list shows", c.name, n.name)
				}
			}
		}
	}
}

func TestHorizonLeavesItsArguments(t *testing.T) {
	var wrong []impl.Snap
	for _, n := range wrongSnaps() {
		wrong = append(wrong, n.s)
	}
	for _, l := range [][]impl.Snap{
		nil, {}, {snapOf(1)}, {snapOf(9, 3, 5)}, {snapOf(9, 3), snapOf(7, 2), snapOf(4)}, wrong,
		someSnaps(20, 30, 1), someSnaps(lastXid, 5, 2), someSnaps(lastXid+1, 5, 3),
	} {
		for _, next := range []int{-1, 0, 1, 5, lastXid + 1, lastXid + 2} {
			g := guardSnaps(l)
			got := impl.Horizon(g.l, next)
			g.check(t, "Horizon")
			if want := plainHorizon(l, next); got != want {
				t.Errorf("Horizon of %d snapshots with room behind them and %d is %d, want %d", len(l), next, got, want)
			}
		}
	}
}

// One list of Running that is changed between two calls: nothing is kept of what it was.
func TestSnapshotsKeepNothing(t *testing.T) {
	s, l := snapOf(9, 2, 5), sameOf(9, done)
	for range 3 {
		wantSees(t, "5 ran", s, l, 5, false)
		wantSees(t, "6 did not", s, l, 6, true)
		wantHorizon(t, "2 ran", []impl.Snap{s}, 9, 2)
		s.Running[0], s.Running[1] = 3, 6
		wantSees(t, "5 did not run", s, l, 5, true)
		wantSees(t, "6 ran", s, l, 6, false)
		wantHorizon(t, "3 ran", []impl.Snap{s}, 9, 3)
		l[5] = gone
		wantSees(t, "5 is gone", s, l, 5, false)
		wantDead(t, "5 is gone", l, 5, 0, 1, true)
		l[5] = done
		wantDead(t, "5 is done", l, 5, 0, 1, false)
		s.Running[0], s.Running[1] = 2, 5
	}
}

func TestSnapshotsNeverPanic(t *testing.T) {
	numbers := []int{math.MinInt, math.MinInt + 1, -lastXid, -1, 0, 1, 2, lastXid, lastXid + 1, lastXid + 2, 1 << 32, math.MaxInt - 1, math.MaxInt}
	for _, n := range append(rightSnaps(), wrongSnaps()...) {
		quiet(t, "SnapOk", func() { impl.SnapOk(n.s) })
		for _, l := range [][]int{nil, {0}, {7, -1, 3}, someNumbers(mostStatuses, 1), someNumbers(700, 2)} {
			for _, a := range append(numbers, n.s.Self) {
				quiet(t, "Sees", func() { impl.Sees(n.s, l, a) })
				quiet(t, "Horizon", func() { impl.Horizon([]impl.Snap{n.s}, a) })
				for _, b := range numbers {
					quiet(t, "Visible", func() { impl.Visible(n.s, l, a, b) })
					quiet(t, "Dead", func() { impl.Dead(l, a, b, a) })
				}
			}
		}
	}
	for _, a := range numbers {
		for _, n := range []int{0, 1, lastXid, lastXid + 1, 100000} {
			quiet(t, "Horizon", func() { impl.Horizon(make([]impl.Snap, n), a) })
		}
	}
}
