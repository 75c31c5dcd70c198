package tests

import (
	"math"
	"slices"
	"testing"

	"loop.example/g00252/impl"
)

func TestHorizonPlainly(t *testing.T) {
	for _, c := range []struct {
		name string
		l    []impl.Snap
		next int
		want int
	}{
		{"nobody", nil, 7, 7},
		{"nobody, an empty list", []impl.Snap{}, 7, 7},
		{"a Self alone", []impl.Snap{snapOf(5)}, 7, 5},
		{"next alone is less", []impl.Snap{snapOf(5)}, 4, 4},
		{"next is the same", []impl.Snap{snapOf(5)}, 5, 5},
		{"next is less than all", []impl.Snap{snapOf(5, 3), snapOf(9, 4)}, 2, 2},
		{"next is between", []impl.Snap{snapOf(9, 3), snapOf(5)}, 4, 3},
		{"a Running alone", []impl.Snap{snapOf(5, 2)}, 7, 2},
		{"the first of a Running", []impl.Snap{snapOf(9, 3, 4, 8)}, 12, 3},
		{"the least in the first one's Self", []impl.Snap{snapOf(3), snapOf(5), snapOf(9)}, 12, 3},
		{"the least in the middle one's Self", []impl.Snap{snapOf(9), snapOf(3), snapOf(5)}, 12, 3},
		{"the least in the last one's Self", []impl.Snap{snapOf(9), snapOf(5), snapOf(3)}, 12, 3},
		{"the least in a Self, others' Running above", []impl.Snap{snapOf(9, 6, 7), snapOf(4), snapOf(8, 5)}, 12, 4},
		{"the least in the first one's Running", []impl.Snap{snapOf(9, 2, 7), snapOf(8, 3), snapOf(4)}, 12, 2},
		{"the least in the middle one's Running", []impl.Snap{snapOf(8, 3), snapOf(9, 2, 7), snapOf(4)}, 12, 2},
		{"the least in the last one's Running", []impl.Snap{snapOf(8, 3), snapOf(4), snapOf(9, 2, 7)}, 12, 2},
		{"all alike", []impl.Snap{snapOf(6, 4), snapOf(6, 4), snapOf(6, 4)}, 7, 4},
		{"the first of all", []impl.Snap{snapOf(1), snapOf(2, 1)}, 3, 1},
		{"the last of all", []impl.Snap{snapOf(lastXid)}, lastXid + 1, lastXid},
		{"the last of all runs", []impl.Snap{snapOf(lastXid, lastXid-1)}, lastXid + 1, lastXid - 1},
	} {
		wantHorizon(t, c.name, c.l, c.next, c.want)
	}
}

func TestHorizonEdgesOfNext(t *testing.T) {
	for _, l := range [][]impl.Snap{nil, {snapOf(1)}, {snapOf(9, 2), snapOf(lastXid)}} {
		for _, next := range []int{0, -1, -2, -lastXid, math.MinInt, lastXid + 2, lastXid + 3, 1<<32 + 1, math.MaxInt} {
			wantHorizon(t, "no next one", l, next, 0)
		}
		for _, next := range []int{1, 2, lastXid, lastXid + 1} {
			wantHorizon(t, "a next one", l, next, plainHorizon(l, next))
		}
	}
	for next := 1; next <= lastXid+1; next++ {
		wantHorizon(t, "next alone", nil, next, next)
	}
}

func TestHorizonOfOneThatIsNotOk(t *testing.T) {
	right := []impl.Snap{snapOf(9, 3, 5), snapOf(12), snapOf(7, 6), snapOf(20, 9)}
	for _, n := range wrongSnaps() {
		wantHorizon(t, n.name+", alone", []impl.Snap{n.s}, 30, 0)
		for at := range len(right) + 1 {
			wantHorizon(t, n.name, slices.Insert(slices.Clone(right), at, n.s), 30, 0)
			wantHorizon(t, n.name+", next is the least", slices.Insert(slices.Clone(right), at, n.s), 1, 0)
		}
	}
	for _, n := range rightSnaps() {
		for at := range len(right) + 1 {
			l := slices.Insert(slices.Clone(right), at, n.s)
			wantHorizon(t, n.name, l, 30, plainHorizon(l, 30))
		}
	}
}

func TestHorizonEdgesOfTheCount(t *testing.T) {
	for _, s := range []impl.Snap{snapOf(1), snapOf(9, 4), snapOf(lastXid, upTo(2, lastXid-1)...)} {
		want := plainHorizon([]impl.Snap{s}, lastXid+1)
		for _, n := range []int{1, 2, lastXid - 1, lastXid} {
			wantHorizon(t, "so many", slices.Repeat([]impl.Snap{s}, n), lastXid+1, want)
		}
		for _, n := range []int{lastXid + 1, lastXid + 2, 2 * lastXid, 9000} {
			wantHorizon(t, "too many", slices.Repeat([]impl.Snap{s}, n), lastXid+1, 0)
			wantHorizon(t, "too many, next is the least", slices.Repeat([]impl.Snap{s}, n), 1, 0)
		}
	}
	var all []impl.Snap
	for self := lastXid; self >= 1; self-- {
		all = append(all, snapOf(self))
		wantHorizon(t, "one after the other", all, lastXid+1, self)
	}
	all[lastXid-1] = snapOf(0)
	wantHorizon(t, "as many as may be, the last one is not ok", all, lastXid+1, 0)
}

func TestHorizonDoesNotLookBehindTheLists(t *testing.T) {
	running := []int{4, 1, 0}
	room := []impl.Snap{{Self: 9, Running: running[:1]}, snapOf(2), {}}
	wantHorizon(t, "room behind one", room[:1], 12, 4)
	wantHorizon(t, "room behind two", room[:2], 12, 2)
	wantHorizon(t, "room behind none", room[:0], 12, 12)
	wantHorizon(t, "room behind a Running", []impl.Snap{{Self: 9, Running: running[:0]}}, 12, 9)
}

func TestHorizonIsAsTheDocumentSays(t *testing.T) {
	for seed := range uint64(400) {
		most := []int{4, 30, lastXid}[seed%3]
		l := someSnaps(int(seed*7)%23, most, seed)
		for _, next := range []int{0, 1, most / 2, most, most + 1, lastXid + 1, lastXid + 2} {
			wantHorizon(t, "some snapshots", l, next, plainHorizon(l, next))
		}
	}
}
