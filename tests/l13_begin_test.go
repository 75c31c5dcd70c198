package tests

import (
	"math"
	"testing"

	"loop.example/g00252/impl"
)

func TestBeginIntoNone(t *testing.T) {
	for _, xid := range []int{1, 2, 255, 256, lastXid} {
		for _, now := range []int{1, 2, 1 << 40, math.MaxInt} {
			want := []impl.Track{{Xid: xid, Begun: now}}
			wantBegin(t, "no list", nil, xid, now, want, edgeWell)
			wantBegin(t, "an empty list", []impl.Track{}, xid, now, want, edgeWell)
		}
	}
}

// The new one stands behind all, whichever Xid and Begun the others have; these stay as they are.
func TestBeginBehindOthers(t *testing.T) {
	for _, of := range rightTracks() {
		if len(of.l) == mostTracks {
			continue
		}
		for _, now := range []int{1, 15, math.MaxInt} {
			wantBegin(t, of.name, of.l, 333, now, append(cloneTracks(of.l), active(333, now)), edgeWell)
		}
	}
	for seed := range uint64(40) {
		l := someTracks(seed)
		wantBegin(t, "some tracks", l, 333, 4, append(cloneTracks(l), active(333, 4)), edgeWell)
		wantBegin(t, "some tracks", l, 2, 4, append(cloneTracks(l), active(2, 4)), edgeWell)
	}
}

func TestBeginOfWrongLists(t *testing.T) {
	for _, of := range wrongTracks() {
		wantBegin(t, of.name, of.l, 333, 1000, nil, edgeBad)
	}
}

func TestBeginOfAnXidThatIsThere(t *testing.T) {
	for _, of := range rightTracks() {
		for _, track := range of.l {
			wantBegin(t, of.name, of.l, track.Xid, 1000, nil, edgeBad)
		}
	}
	wantBegin(t, "one that is active", tracksOf(active(5, 1), active(6, 2)), 5, 9, nil, edgeBad)
	wantBegin(t, "one that ended", tracksOf(ended(5, 1, 3), active(6, 2)), 5, 9, nil, edgeBad)
	wantBegin(t, "the last one", tracksOf(ended(5, 1, 3), active(6, 2)), 6, 9, nil, edgeBad)
}

func TestBeginOutOfTheLimits(t *testing.T) {
	for _, l := range [][]impl.Track{nil, actives(3)} {
		for _, xid := range []int{math.MinInt, -lastXid, -1, 0, lastXid + 1, lastXid + 2, 512, 1 << 32, 1<<32 + 50, math.MaxInt} {
			wantBegin(t, "an xid", l, xid, 1000, nil, edgeBad)
		}
		for _, now := range []int{math.MinInt, -1 << 32, -2, -1, 0} {
			wantBegin(t, "a now", l, 333, now, nil, edgeBad)
		}
		wantBegin(t, "the least now", l, 333, 1, append(cloneTracks(l), active(333, 1)), edgeWell)
	}
}

func TestBeginUpToMaxTracks(t *testing.T) {
	for _, n := range upTo(0, mostTracks+3) {
		if n < mostTracks {
			wantBegin(t, "room is left", actives(n), 333, 5, append(actives(n), active(333, 5)), edgeWell)
		} else {
			wantBegin(t, "no room is left", actives(n), 333, 5, nil, edgeBad)
		}
	}
	full := changedTracks(actives(mostTracks), func(l []impl.Track) {
		for i := range l {
			l[i].Ended = 9999
		}
	})
	wantBegin(t, "MaxTracks that ended", full, 333, 10000, nil, edgeBad)
}

func TestBeginOneAfterTheOther(t *testing.T) {
	var l []impl.Track
	for n := 1; n <= mostTracks; n++ {
		after, code := impl.EdgeBegin(l, n, 10*n)
		wantTracks(t, "one after the other", after, code, actives(n), edgeWell)
		l = after
	}
}
