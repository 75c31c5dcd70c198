package tests

import (
	"fmt"
	"math"
	"slices"
	"testing"

	"loop.example/g00252/impl"
)

func TestReadIsPutBehindTheOthers(t *testing.T) {
	for n := range mostReads {
		l := tracksOf(withReads(active(1, 10), upTo(1, n)...))
		wantEdgeRead(t, fmt.Sprint("span ", n+1), l, 1, spanOf(n+1, n+1), tracksOf(withReads(active(1, 10), upTo(1, n+1)...)), edgeWell)
	}
	wantEdgeRead(t, "the same span again", tracksOf(withReads(active(1, 10), 5)), 1, spanOf(5, 5), tracksOf(withReads(active(1, 10), 5, 5)), edgeWell)
	wantEdgeRead(t, "a span within another", tracksOf(withSpans(active(1, 10), spanOf(1, 9))), 1, spanOf(5, 5), tracksOf(withSpans(active(1, 10), spanOf(1, 9), spanOf(5, 5))), edgeWell)
	wantEdgeRead(t, "a lesser one", tracksOf(withReads(active(1, 10), 5)), 1, spanOf(2, 2), tracksOf(withReads(active(1, 10), 5, 2)), edgeWell)
}

func TestReadsAreMadeCoarser(t *testing.T) {
	full := tracksOf(withReads(active(1, 10), upTo(1, mostReads)...), withReads(active(2, 20), upTo(1, mostReads)...))
	wantEdgeRead(t, "one more than MaxReads", full, 1, spanOf(9, 9), tracksOf(withAll(active(1, 10)), full[1]), edgeWell)
	wantEdgeRead(t, "one that is there already", full, 2, spanOf(1, 1), tracksOf(full[0], withAll(active(2, 20))), edgeWell)
	coarse := tracksOf(withAll(active(1, 10)))
	wantEdgeRead(t, "All is set already", coarse, 1, spanOf(9, 9), coarse, edgeWell)
	got, _ := impl.EdgeRead(full, 1, spanOf(9, 9))
	wantReads(t, "what was read before", got[0], intItem(3), true)
	wantReads(t, "what is read now", got[0], intItem(9), true)
	wantReads(t, "what was never read", got[0], textItem("x"), true)
}

// A reader that has to set All, or has it set already, touches those that wrote in the span, and no others.
func TestReadsThatAreCoarserTouchByTheirSpan(t *testing.T) {
	for _, reader := range []impl.Track{active(1, 10), withReads(active(1, 10), upTo(1, mostReads)...), withAll(active(1, 10))} {
		l := tracksOf(withWrites(active(3, 12), 8), reader, withWrites(active(2, 11), 9))
		want := changedTracks(l, func(l []impl.Track) {
			l[1].Out, l[2].In = true, true
			switch {
			case len(reader.Reads) == 0 && !reader.All:
				l[1].Reads = spansOf(9)
			default:
				l[1] = withMarks(withAll(active(1, 10)), false, true)
			}
		})
		wantEdgeRead(t, "by the span alone", l, 1, spanOf(9, 9), want, edgeWell)
	}
}

// Others that are concurrent or not, active or ended; the reader began at 10.
func TestReadTouchesThoseThatAreConcurrent(t *testing.T) {
	for _, begun := range []int{1, 5, 9, 10, 11, 50} {
		for _, end := range []int{0, 6, 9, 10, 11, 12, 60} {
			if end != 0 && end <= begun {
				continue
			}
			touched := end == 0 || end > 10
			for _, order := range []bool{false, true} {
				l := tracksOf(active(1, 10), withWrites(ended(2, begun, end), 5))
				want := tracksOf(withMarks(withReads(active(1, 10), 5), false, touched), withMarks(withWrites(ended(2, begun, end), 5), touched, false))
				if order {
					slices.Reverse(l)
					slices.Reverse(want)
				}
				wantEdgeRead(t, fmt.Sprint("another one from ", begun, " to ", end), l, 1, spanOf(5, 5), want, edgeWell)
			}
		}
	}
}

// At both ends of the span, between them and outside, by the first, the last and a middle one of several writes.
func TestReadTouchesWritesInItsSpan(t *testing.T) {
	for key := 2; key <= 10; key++ {
		for _, writes := range [][]int{{key}, {key, 99}, {99, key}, {-99, key, 99}} {
			touched := key >= 4 && key <= 8
			l := tracksOf(active(1, 10), withWrites(active(2, 11), writes...))
			want := tracksOf(withMarks(withSpans(active(1, 10), spanOf(4, 8)), false, touched), withMarks(withWrites(active(2, 11), writes...), touched, false))
			wantEdgeRead(t, fmt.Sprint("writes ", writes), l, 1, spanOf(4, 8), want, edgeWell)
		}
	}
	keys := risingKeys()
	for at := range keys {
		l := tracksOf(active(1, 10), withKeys(active(2, 11), keys[at]))
		for _, ends := range [][2]int{{at, at}, {0, at}, {at, len(keys) - 1}, {0, at - 1}, {at + 1, len(keys) - 1}} {
			if ends[0] > ends[1] {
				continue
			}
			s, touched := impl.Span{From: keys[ends[0]], To: keys[ends[1]]}, ends[0] <= at && at <= ends[1]
			want := tracksOf(withMarks(withSpans(active(1, 10), s), false, touched), withMarks(l[1], touched, false))
			wantEdgeRead(t, "a key of any kind", l, 1, s, want, edgeWell)
		}
	}
	wantEdgeRead(t, "who wrote nothing", tracksOf(active(1, 10), withAll(active(2, 11))), 1, spanOf(4, 8), tracksOf(withSpans(active(1, 10), spanOf(4, 8)), withAll(active(2, 11))), edgeWell)
	wantEdgeRead(t, "who read it", tracksOf(active(1, 10), withReads(active(2, 11), 5)), 1, spanOf(4, 8), tracksOf(withSpans(active(1, 10), spanOf(4, 8)), withReads(active(2, 11), 5)), edgeWell)
}

func TestReadTouchesSeveral(t *testing.T) {
	l := tracksOf(withWrites(active(2, 5), 1), withWrites(active(3, 5), 7), active(1, 10), withWrites(ended(4, 2, 10), 1), withWrites(ended(5, 2, 11), 1, 2), withWrites(active(6, 90), 3, 1))
	want := changedTracks(l, func(l []impl.Track) {
		l[0].In, l[4].In, l[5].In = true, true, true
		l[2].Out, l[2].Reads = true, spansOf(1)
	})
	wantEdgeRead(t, "three of five", l, 1, spanOf(1, 1), want, edgeWell)
	var crowd []impl.Track
	for _, track := range actives(mostTracks) {
		crowd = append(crowd, withWrites(track, 5))
	}
	for _, xid := range []int{1, 2, 30, mostTracks} {
		want := changedTracks(crowd, func(l []impl.Track) {
			for i := range l {
				l[i].In, l[i].Out = l[i].Xid != xid, l[i].Xid == xid
			}
			l[xid-1].Reads = spansOf(5)
		})
		wantEdgeRead(t, "all of MaxTracks", crowd, xid, spanOf(5, 5), want, edgeWell)
	}
}

func TestReadOfItsOwnWrites(t *testing.T) {
	l := tracksOf(withWrites(active(1, 10), 5), active(2, 11))
	wantEdgeRead(t, "its own writes alone", l, 1, spanOf(5, 5), tracksOf(withReads(withWrites(active(1, 10), 5), 5), active(2, 11)), edgeWell)
	l = tracksOf(withWrites(active(1, 10), 5), withWrites(active(2, 11), 5))
	wantEdgeRead(t, "another one wrote it too", l, 1, spanOf(5, 5), tracksOf(withMarks(withReads(withWrites(active(1, 10), 5), 5), false, true), withMarks(withWrites(active(2, 11), 5), true, false)), edgeWell)
}

// Marks of both in all ways that they may have had before, of an other that is active or ended, touched or not.
func TestReadKeepsMarksAndTellsDangers(t *testing.T) {
	for n := range 64 {
		is := func(bit int) bool { return n>>bit&1 == 1 }
		reader, other := withMarks(active(1, 10), is(0), is(1)), withMarks(withWrites(active(2, 11), 5), is(2), is(3))
		other.Ended = 20 * oneIf(is(4))
		touched := is(5)
		s := spanOf(5, 5)
		if !touched {
			s = spanOf(6, 6)
		}
		wantReader, wantOther := withMarks(withSpans(reader, s), is(0), is(1) || touched), withMarks(other, is(2) || touched, is(3))
		code := edgeWell
		if wantReader.In && wantReader.Out || touched && is(4) && wantOther.In && wantOther.Out {
			code = edgeDanger
		}
		name := fmt.Sprintf("the reader %v %v, the other %v %v, ended %v, touched %v", is(0), is(1), is(2), is(3), is(4), touched)
		wantEdgeRead(t, name, tracksOf(reader, other), 1, s, tracksOf(wantReader, wantOther), code)
		wantEdgeRead(t, name+", the other way round", tracksOf(other, reader), 1, s, tracksOf(wantOther, wantReader), code)
	}
}

func TestReadTellsDangersPlainly(t *testing.T) {
	marked := withMarks(withWrites(ended(2, 5, 20), 5), true, true)
	reader := active(1, 10)
	read := withReads(reader, 7)
	wantEdgeRead(t, "one not touched, ended, with both marks", tracksOf(reader, marked), 1, spanOf(7, 7), tracksOf(read, marked), edgeWell)
	gone := withMarks(withWrites(ended(2, 5, 10), 7), true, true)
	wantEdgeRead(t, "one not concurrent, ended, with both marks", tracksOf(reader, gone, active(3, 6)), 1, spanOf(7, 7), tracksOf(read, gone, active(3, 6)), edgeWell)
	busy := withMarks(withWrites(active(2, 5), 7), false, true)
	wantEdgeRead(t, "one that is active gets both", tracksOf(reader, busy), 1, spanOf(7, 7), tracksOf(withMarks(read, false, true), withMarks(busy, true, true)), edgeWell)
	over := withMarks(withWrites(ended(2, 5, 20), 7), false, true)
	wantEdgeRead(t, "one that ended gets both", tracksOf(reader, over), 1, spanOf(7, 7), tracksOf(withMarks(read, false, true), withMarks(over, true, true)), edgeDanger)
	wantEdgeRead(t, "the reader has both and touches nobody", tracksOf(withMarks(reader, true, true)), 1, spanOf(7, 7), tracksOf(withMarks(read, true, true)), edgeDanger)
	for _, at := range []int{0, 1, 2, 3} {
		others := []impl.Track{withWrites(active(3, 11), 7), withWrites(ended(4, 11, 30), 7), withMarks(withWrites(active(5, 11), 7), false, true)}
		l := slices.Insert(cloneTracks(others), at, over)
		l = append([]impl.Track{reader}, l...)
		want := changedTracks(l, func(l []impl.Track) {
			for i := range l {
				l[i].In = i > 0
			}
			l[0].Out, l[0].Reads = true, spansOf(7)
		})
		wantEdgeRead(t, "one of several that ended", l, 1, spanOf(7, 7), want, edgeDanger)
	}
}

func TestReadIsBad(t *testing.T) {
	for _, of := range wrongTracks() {
		for _, xid := range []int{1, 3, 333} {
			wantEdgeRead(t, of.name, of.l, xid, spanOf(1, 1), nil, edgeBad)
		}
	}
	l := tracksOf(active(1, 10), ended(2, 11, 20), withAll(active(3, 12)), withMarks(active(4, 13), true, true))
	for _, xid := range []int{math.MinInt, -1, 0, 2, 5, lastXid, lastXid + 1, 1<<32 + 1, math.MaxInt} {
		wantEdgeRead(t, "nobody active has it", l, xid, spanOf(1, 1), nil, edgeBad)
		wantEdgeRead(t, "nobody is there", nil, xid, spanOf(1, 1), nil, edgeBad)
	}
	for _, xid := range []int{1, 3, 4} {
		for _, wrong := range noKeys() {
			wantEdgeRead(t, "From is no key", l, xid, impl.Span{From: wrong, To: longText("\xFF")}, nil, edgeBad)
			wantEdgeRead(t, "To is no key", l, xid, impl.Span{From: intItem(math.MinInt), To: wrong}, nil, edgeBad)
		}
		wantEdgeRead(t, "From behind To", l, xid, spanOf(2, 1), nil, edgeBad)
		wantEdgeRead(t, "the zero value", l, xid, impl.Span{}, nil, edgeBad)
	}
}

func TestReadIsAsTheDocumentSays(t *testing.T) {
	codes := make([]int, 3)
	for seed := range uint64(150) {
		l := someTracks(seed + 700)
		for _, xid := range upTo(0, 22) {
			for _, s := range edgeSpans() {
				want, code := plainReadOf(l, xid, s, mostReads)
				wantEdgeRead(t, "some tracks", l, xid, s, want, code)
				codes[code]++
			}
		}
	}
	if slices.Min(codes) < 500 {
		t.Errorf("codes: %v", codes)
	}
}
