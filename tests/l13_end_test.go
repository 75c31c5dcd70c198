package tests

import (
	"fmt"
	"math"
	"slices"
	"testing"

	"loop.example/g00252/impl"
)

func TestEndIsBad(t *testing.T) {
	for _, of := range wrongTracks() {
		for _, xid := range []int{1, 3, 333} {
			wantEdgeEnd(t, of.name, of.l, xid, 1000, true, nil, edgeBad)
			wantEdgeEnd(t, of.name, of.l, xid, 1000, false, nil, edgeBad)
		}
	}
	l := tracksOf(active(1, 10), ended(2, 11, 20), withMarks(active(3, 12), true, true))
	for _, done := range []bool{false, true} {
		for _, xid := range []int{math.MinInt, -1, 0, 2, 4, lastXid, lastXid + 1, 1<<32 + 1, math.MaxInt} {
			wantEdgeEnd(t, "nobody active has it", l, xid, 1000, done, nil, edgeBad)
			wantEdgeEnd(t, "nobody is there", nil, xid, 1000, done, nil, edgeBad)
		}
		for _, now := range []int{math.MinInt, -10, -1, 0, 1, 9, 10} {
			wantEdgeEnd(t, "now is not above Begun", l, 1, now, done, nil, edgeBad)
		}
		for _, now := range []int{math.MinInt, 0, 11, 12} {
			wantEdgeEnd(t, "now is not above Begun, with both marks", l, 3, now, done, nil, edgeBad)
		}
		wantEdgeEnd(t, "begun last of all", tracksOf(active(1, math.MaxInt)), 1, math.MaxInt, done, nil, edgeBad)
	}
}

// Another one that is active and began first keeps those that end.
func TestEndDone(t *testing.T) {
	for _, now := range []int{11, 12, 1000, math.MaxInt} {
		for _, track := range []impl.Track{active(2, 10), withMarks(active(2, 10), true, false), withMarks(active(2, 10), false, true), withReads(withWrites(active(2, 10), 1, 2), 3, 4), withAll(active(2, 10))} {
			want := track
			want.Ended = now
			wantEdgeEnd(t, "another one ahead", tracksOf(active(1, 5), track), 2, now, true, tracksOf(active(1, 5), want), edgeWell)
			wantEdgeEnd(t, "another one behind", tracksOf(track, active(1, 5)), 2, now, true, tracksOf(want, active(1, 5)), edgeWell)
			wantEdgeEnd(t, "another one that began at once", tracksOf(track, active(1, 10)), 2, now, true, tracksOf(want, active(1, 10)), edgeWell)
		}
	}
}

func TestEndDoneWithBothMarks(t *testing.T) {
	track := withMarks(withReads(withWrites(active(2, 10), 1, 2), 3, 4), true, true)
	for _, now := range []int{11, 1000, math.MaxInt} {
		for _, l := range [][]impl.Track{
			tracksOf(track),
			tracksOf(active(1, 5), track),
			tracksOf(track, active(1, 5)),
			tracksOf(track, ended(1, 2, 5), ended(3, 2, 10)),
			tracksOf(ended(1, 2, 5), withMarks(ended(4, 2, 6), true, true), track, ended(3, 2, 50)),
		} {
			wantEdgeEnd(t, "the list as it was", l, 2, now, true, l, edgeDanger)
		}
	}
	l := tracksOf(withMarks(active(1, 5), true, true), active(2, 6), withMarks(ended(3, 4, 8), true, true))
	wantEdgeEnd(t, "others have both", l, 2, 9, true, tracksOf(l[0], ended(2, 6, 9), l[2]), edgeWell)
}

func TestEndNotDone(t *testing.T) {
	for _, in := range []bool{false, true} {
		for _, out := range []bool{false, true} {
			for _, now := range []int{11, 1000, math.MaxInt} {
				track := withMarks(withReads(withWrites(active(2, 10), 1, 2), 3, 4), in, out)
				wantEdgeEnd(t, "alone", tracksOf(track), 2, now, false, nil, edgeWell)
				wantEdgeEnd(t, "first", tracksOf(track, active(1, 5), active(3, 20)), 2, now, false, tracksOf(active(1, 5), active(3, 20)), edgeWell)
				wantEdgeEnd(t, "between others", tracksOf(active(1, 5), track, active(3, 20)), 2, now, false, tracksOf(active(1, 5), active(3, 20)), edgeWell)
				wantEdgeEnd(t, "last", tracksOf(active(1, 5), active(3, 20), track), 2, now, false, tracksOf(active(1, 5), active(3, 20)), edgeWell)
			}
		}
	}
	l := tracksOf(withMarks(active(1, 5), true, false), withMarks(withWrites(active(2, 6), 1), true, true), withMarks(ended(3, 4, 8), false, true))
	wantEdgeEnd(t, "marks of others stay", l, 2, 9, false, tracksOf(l[0], l[2]), edgeWell)
}

func TestEndWhereNobodyIsActiveAnyMore(t *testing.T) {
	for _, done := range []bool{false, true} {
		for _, now := range []int{11, 12, math.MaxInt} {
			wantEdgeEnd(t, "alone", tracksOf(active(1, 10)), 1, now, done, nil, edgeWell)
			l := tracksOf(ended(2, 1, 5), ended(3, 1, 10), active(1, 10), ended(4, 1, 11), ended(5, 900, math.MaxInt), withMarks(ended(6, 5, 50), true, true))
			wantEdgeEnd(t, "all ended", l, 1, now, done, nil, edgeWell)
		}
	}
}

// Of ended ones those stay whose Ended is above the least Begun of those active, be it by one; that of the one that ends counts no more.
func TestEndTakesOutThosePassed(t *testing.T) {
	for _, done := range []bool{false, true} {
		for _, begins := range [][]int{{20}, {20, 30}, {30, 20}, {25, 20, 30}, {20, 20}} {
			least := slices.Min(begins)
			for _, own := range []int{3, 15, 20, 35} {
				for _, now := range []int{own + 1, least - 1, least, least + 1, 100} {
					if now <= own {
						continue
					}
					l := tracksOf(ended(50, 1, 2), ended(51, 1, least-1), active(1, own), ended(52, 1, least))
					for i, begun := range begins {
						l = append(l, active(60+i, begun), ended(70+i, 2, begun+1))
					}
					l = append(l, ended(53, 5, least+1), ended(54, 40, 50))
					var want []impl.Track
					for _, track := range l {
						if track.Xid == 1 && done {
							track.Ended = now
						}
						if track.Xid != 1 && track.Ended == 0 || track.Ended > least {
							want = append(want, track)
						}
					}
					wantEdgeEnd(t, fmt.Sprint("done ", done, ", begun ", own, ", now ", now, ", others ", begins), l, 1, now, done, want, edgeWell)
				}
			}
		}
	}
}

func TestEndTakesOutThosePassedPlainly(t *testing.T) {
	l := tracksOf(ended(9, 1, 20), ended(8, 1, 21), active(7, 20), ended(6, 2, 19), active(5, 3), ended(4, 22, 30))
	wantEdgeEnd(t, "the oldest ends at last", l, 5, 40, true, tracksOf(l[1], l[2], ended(5, 3, 40), l[5]), edgeWell)
	wantEdgeEnd(t, "it is passed itself", l, 5, 20, true, tracksOf(l[1], l[2], l[5]), edgeWell)
	wantEdgeEnd(t, "it is not passed by one", l, 5, 21, true, tracksOf(l[1], l[2], ended(5, 3, 21), l[5]), edgeWell)
	wantEdgeEnd(t, "it is given up", l, 5, 21, false, tracksOf(l[1], l[2], l[5]), edgeWell)
	wantEdgeEnd(t, "the oldest stays", l, 7, 40, true, tracksOf(l[0], l[1], ended(7, 20, 40), l[3], l[4], l[5]), edgeWell)
	wantEdgeEnd(t, "the oldest stays, another is given up", l, 7, 40, false, tracksOf(l[0], l[1], l[3], l[4], l[5]), edgeWell)
}

// Whoever stays, stays in order, in each order of the list.
func TestEndKeepsTheOrder(t *testing.T) {
	var l []impl.Track
	for i := range 21 {
		l = append(l, []impl.Track{active(1+i, 40+i), ended(1+i, 1+i, 30+i), ended(1+i, 2, 41+i)}[i%3])
	}
	for _, order := range ordersOf(len(l)) {
		var mixed []impl.Track
		for _, at := range order.at {
			mixed = append(mixed, l[at])
		}
		for _, done := range []bool{false, true} {
			for _, xid := range []int{1, 4, 10, 19} {
				want, code := plainEndOf(mixed, xid, 90, done, mostReads)
				wantEdgeEnd(t, order.name, mixed, xid, 90, done, want, code)
			}
		}
	}
}

func TestEndOfMaxTracks(t *testing.T) {
	l := actives(mostTracks)
	for xid := 1; xid <= mostTracks; xid++ {
		after, code := impl.EdgeEnd(l, xid, 10*mostTracks+xid, true)
		want, wantCode := plainEndOf(l, xid, 10*mostTracks+xid, true, mostReads)
		wantTracks(t, "one after the other", after, code, want, wantCode)
		l = after
	}
	if len(l) != 0 {
		t.Errorf("%d are left", len(l))
	}
}

func TestEndIsAsTheDocumentSays(t *testing.T) {
	codes := make([]int, 3)
	for seed := range uint64(400) {
		l := someTracks(seed + 1200)
		for _, xid := range upTo(0, 22) {
			for _, now := range []int{0, 2, 5, 8, 30} {
				for _, done := range []bool{false, true} {
					want, code := plainEndOf(l, xid, now, done, mostReads)
					wantEdgeEnd(t, "some tracks", l, xid, now, done, want, code)
					codes[code]++
				}
			}
		}
	}
	if slices.Min(codes) < 200 {
		t.Errorf("codes: %v", codes)
	}
}
