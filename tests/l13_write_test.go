package tests

import (
	"fmt"
	"math"
	"slices"
	"testing"

	"loop.example/g00252/impl"
)

func TestWriteIsPutBehindTheOthers(t *testing.T) {
	wantEdgeWrite(t, "the first key", actives(1), 1, intItem(5), tracksOf(withWrites(active(1, 10), 5)), edgeWell)
	wantEdgeWrite(t, "a lesser one", tracksOf(withWrites(active(1, 10), 5)), 1, intItem(2), tracksOf(withWrites(active(1, 10), 5, 2)), edgeWell)
	wantEdgeWrite(t, "another kind", tracksOf(withWrites(active(1, 10), 5)), 1, floatItem(5), tracksOf(withKeys(active(1, 10), intItem(5), floatItem(5))), edgeWell)
	wantEdgeWrite(t, "what others wrote", tracksOf(active(1, 10), withWrites(active(2, 11), 5)), 1, intItem(5), tracksOf(withWrites(active(1, 10), 5), withWrites(active(2, 11), 5)), edgeWell)
	l := actives(1)
	for i, key := range risingKeys() {
		l, _ = impl.EdgeWrite(l, 1, key)
		wantTracks(t, "keys of any kind", l, edgeWell, tracksOf(withKeys(active(1, 10), risingKeys()[:i+1]...)), edgeWell)
	}
}

func TestWriteOfAKeyThatIsThere(t *testing.T) {
	keys := risingKeys()
	full := tracksOf(withKeys(active(1, 10), keys...))
	for _, key := range keys {
		wantEdgeWrite(t, "it is there", full, 1, key, full, edgeWell)
	}
	nan := tracksOf(withKeys(active(1, 10), floatItem(plainNaN())))
	for _, bits := range strangeNaNs() {
		wantEdgeWrite(t, "NaNs are one", nan, 1, floatItem(math.Float64frombits(bits)), nan, edgeWell)
	}
	nought := tracksOf(withKeys(active(1, 10), floatItem(0)))
	wantEdgeWrite(t, "+0 is there", nought, 1, floatItem(0), nought, edgeWell)
	wantEdgeWrite(t, "-0 where +0 is there", nought, 1, floatItem(minusNought()), nil, edgeBad)
	twice := tracksOf(withWrites(active(1, 10), 5, 6, 5))
	wantEdgeWrite(t, "it is there twice", twice, 1, intItem(5), twice, edgeWell)
}

func TestWriteUpToMaxKeys(t *testing.T) {
	nearly := tracksOf(active(2, 5), withWrites(active(1, 10), upTo(1, mostKeys-1)...))
	full := tracksOf(active(2, 5), withWrites(active(1, 10), upTo(1, mostKeys)...))
	wantEdgeWrite(t, "the last one that has room", nearly, 1, intItem(mostKeys), full, edgeWell)
	for _, key := range []int{1, 2, 100, mostKeys} {
		wantEdgeWrite(t, "MaxKeys, and one that is there", full, 1, intItem(key), full, edgeWell)
	}
	for _, key := range []impl.Item{intItem(0), intItem(mostKeys + 1), floatItem(1), textItem("")} {
		wantEdgeWrite(t, "MaxKeys, and one more", full, 1, key, nil, edgeBad)
	}
	wantEdgeWrite(t, "another one has MaxKeys", full, 2, intItem(777), tracksOf(withWrites(active(2, 5), 777), full[1]), edgeWell)
	same := tracksOf(withWrites(active(1, 10), sameOf(mostKeys, 3)...))
	wantEdgeWrite(t, "one key MaxKeys times", same, 1, intItem(3), same, edgeWell)
	wantEdgeWrite(t, "one key MaxKeys times, and another", same, 1, intItem(4), nil, edgeBad)
	met := tracksOf(withAll(active(2, 5)), full[1])
	wantEdgeWrite(t, "MaxKeys, one that is there, and one who read it", met, 1, intItem(7), tracksOf(withMarks(met[0], false, true), withMarks(met[1], true, false)), edgeWell)
}

// Others that are concurrent or not, active or ended, and read the key by a span or by All; the writer began at 10.
func TestWriteTouchesThoseThatAreConcurrent(t *testing.T) {
	for _, begun := range []int{1, 5, 9, 10, 11, 50} {
		for _, end := range []int{0, 6, 9, 10, 11, 12, 60} {
			if end != 0 && end <= begun {
				continue
			}
			touched := end == 0 || end > 10
			for _, other := range []impl.Track{withReads(ended(2, begun, end), 5), withAll(ended(2, begun, end)), withReads(ended(2, begun, end), 9, 8, 5)} {
				l := tracksOf(active(1, 10), other)
				want := tracksOf(withMarks(withWrites(active(1, 10), 5), touched, false), withMarks(other, false, touched))
				wantEdgeWrite(t, fmt.Sprint("another one from ", begun, " to ", end), l, 1, intItem(5), want, edgeWell)
				slices.Reverse(l)
				slices.Reverse(want)
				wantEdgeWrite(t, fmt.Sprint("behind another one from ", begun, " to ", end), l, 1, intItem(5), want, edgeWell)
			}
		}
	}
}

func TestWriteTouchesReadsOfItsKey(t *testing.T) {
	for key := 2; key <= 10; key++ {
		for _, spans := range [][]impl.Span{{spanOf(4, 8)}, {spanOf(4, 8), spanOf(99, 99)}, {spanOf(99, 99), spanOf(4, 8)}, {spanOf(-9, -9), spanOf(4, 6), spanOf(6, 8)}} {
			touched := key >= 4 && key <= 8
			other := withSpans(active(2, 11), spans...)
			want := tracksOf(withMarks(withWrites(active(1, 10), key), touched, false), withMarks(other, false, touched))
			wantEdgeWrite(t, fmt.Sprint("the key ", key), tracksOf(active(1, 10), other), 1, intItem(key), want, edgeWell)
		}
	}
	keys := risingKeys()
	for at, key := range keys {
		for _, ends := range [][2]int{{at, at}, {0, at}, {at, len(keys) - 1}, {0, at - 1}, {at + 1, len(keys) - 1}} {
			if ends[0] > ends[1] {
				continue
			}
			other := withSpans(active(2, 11), impl.Span{From: keys[ends[0]], To: keys[ends[1]]})
			touched := ends[0] <= at && at <= ends[1]
			want := tracksOf(withMarks(withKeys(active(1, 10), key), touched, false), withMarks(other, false, touched))
			wantEdgeWrite(t, "a key of any kind", tracksOf(active(1, 10), other), 1, key, want, edgeWell)
		}
	}
	for _, key := range keys {
		want := tracksOf(withMarks(withKeys(active(1, 10), key), true, false), withMarks(withAll(active(2, 11)), false, true))
		wantEdgeWrite(t, "All is set", tracksOf(active(1, 10), withAll(active(2, 11))), 1, key, want, edgeWell)
	}
	wantEdgeWrite(t, "who wrote it", tracksOf(active(1, 10), withWrites(active(2, 11), 5)), 1, intItem(5), tracksOf(withWrites(active(1, 10), 5), withWrites(active(2, 11), 5)), edgeWell)
}

// A key that is there already is written once more: who has read it since is met.
func TestWriteOfAKeyThatIsThereTouches(t *testing.T) {
	l := tracksOf(withWrites(active(1, 10), 5), withReads(active(2, 11), 5))
	wantEdgeWrite(t, "it is there", l, 1, intItem(5), tracksOf(withMarks(l[0], true, false), withMarks(l[1], false, true)), edgeWell)
}

func TestWriteTouchesSeveral(t *testing.T) {
	l := tracksOf(withReads(active(2, 5), 1), withReads(active(3, 5), 7), active(1, 10), withAll(ended(4, 2, 10)), withReads(ended(5, 2, 11), 1, 2), withAll(active(6, 90)))
	want := changedTracks(l, func(l []impl.Track) {
		l[0].Out, l[4].Out, l[5].Out = true, true, true
		l[2].In, l[2].Writes = true, intItems(1)
	})
	wantEdgeWrite(t, "three of five", l, 1, intItem(1), want, edgeWell)
	var crowd []impl.Track
	for _, track := range actives(mostTracks) {
		crowd = append(crowd, withReads(track, 5))
	}
	for _, xid := range []int{1, 2, 30, mostTracks} {
		want := changedTracks(crowd, func(l []impl.Track) {
			for i := range l {
				l[i].In, l[i].Out = l[i].Xid == xid, l[i].Xid != xid
			}
			l[xid-1].Writes = intItems(5)
		})
		wantEdgeWrite(t, "all of MaxTracks", crowd, xid, intItem(5), want, edgeWell)
	}
}

func TestWriteOfItsOwnReads(t *testing.T) {
	for _, writer := range []impl.Track{withReads(active(1, 10), 5), withAll(active(1, 10))} {
		wantEdgeWrite(t, "its own reads alone", tracksOf(writer, active(2, 11)), 1, intItem(5), tracksOf(withWrites(writer, 5), active(2, 11)), edgeWell)
		want := tracksOf(withMarks(withWrites(writer, 5), true, false), withMarks(withReads(active(2, 11), 5), false, true))
		wantEdgeWrite(t, "another one read it too", tracksOf(writer, withReads(active(2, 11), 5)), 1, intItem(5), want, edgeWell)
	}
}

// Marks of both in all ways that they may have had before, of an other that is active or ended, touched or not.
func TestWriteKeepsMarksAndTellsDangers(t *testing.T) {
	for n := range 128 {
		is := func(bit int) bool { return n>>bit&1 == 1 }
		writer, other := withMarks(active(1, 10), is(0), is(1)), withMarks(withReads(active(2, 11), 5), is(2), is(3))
		other.Ended = 20 * oneIf(is(4))
		touched := is(5)
		key := 6 - oneIf(touched)
		if is(6) {
			other, touched = withAll(other), true
		}
		wantWriter, wantOther := withMarks(withWrites(writer, key), is(0) || touched, is(1)), withMarks(other, is(2), is(3) || touched)
		code := edgeWell
		if wantWriter.In && wantWriter.Out || touched && is(4) && wantOther.In && wantOther.Out {
			code = edgeDanger
		}
		name := fmt.Sprintf("the writer %v %v, the other %v %v, ended %v, touched %v, All %v", is(0), is(1), is(2), is(3), is(4), touched, is(6))
		wantEdgeWrite(t, name, tracksOf(writer, other), 1, intItem(key), tracksOf(wantWriter, wantOther), code)
		wantEdgeWrite(t, name+", the other way round", tracksOf(other, writer), 1, intItem(key), tracksOf(wantOther, wantWriter), code)
	}
}

func TestWriteTellsDangersPlainly(t *testing.T) {
	writer := active(1, 10)
	wrote := withWrites(writer, 7)
	marked := withMarks(withReads(ended(2, 5, 20), 5), true, true)
	wantEdgeWrite(t, "one not touched, ended, with both marks", tracksOf(writer, marked), 1, intItem(7), tracksOf(wrote, marked), edgeWell)
	gone := withMarks(withAll(ended(2, 5, 10)), true, true)
	wantEdgeWrite(t, "one not concurrent, ended, with both marks", tracksOf(writer, gone, active(3, 6)), 1, intItem(7), tracksOf(wrote, gone, active(3, 6)), edgeWell)
	busy := withMarks(withReads(active(2, 5), 7), true, false)
	wantEdgeWrite(t, "one that is active gets both", tracksOf(writer, busy), 1, intItem(7), tracksOf(withMarks(wrote, true, false), withMarks(busy, true, true)), edgeWell)
	over := withMarks(withReads(ended(2, 5, 20), 7), true, false)
	wantEdgeWrite(t, "one that ended gets both", tracksOf(writer, over), 1, intItem(7), tracksOf(withMarks(wrote, true, false), withMarks(over, true, true)), edgeDanger)
	wantEdgeWrite(t, "the writer has both and touches nobody", tracksOf(withMarks(writer, true, true)), 1, intItem(7), tracksOf(withMarks(wrote, true, true)), edgeDanger)
	for _, at := range []int{0, 1, 2, 3} {
		others := []impl.Track{withReads(active(3, 11), 7), withAll(ended(4, 11, 30)), withMarks(withReads(active(5, 11), 7), true, false)}
		l := slices.Insert(cloneTracks(others), at, over)
		l = append([]impl.Track{writer}, l...)
		want := changedTracks(l, func(l []impl.Track) {
			for i := range l {
				l[i].Out = i > 0
			}
			l[0].In, l[0].Writes = true, intItems(7)
		})
		wantEdgeWrite(t, "one of several that ended", l, 1, intItem(7), want, edgeDanger)
	}
}

func TestWriteIsBad(t *testing.T) {
	for _, of := range wrongTracks() {
		for _, xid := range []int{1, 3, 333} {
			wantEdgeWrite(t, of.name, of.l, xid, intItem(1), nil, edgeBad)
		}
	}
	l := tracksOf(active(1, 10), ended(2, 11, 20), withAll(active(3, 12)), withMarks(active(4, 13), true, true))
	for _, xid := range []int{math.MinInt, -1, 0, 2, 5, lastXid, lastXid + 1, 1<<32 + 1, math.MaxInt} {
		wantEdgeWrite(t, "nobody active has it", l, xid, intItem(1), nil, edgeBad)
		wantEdgeWrite(t, "nobody is there", nil, xid, intItem(1), nil, edgeBad)
	}
	for _, xid := range []int{1, 3, 4} {
		for _, wrong := range noKeys() {
			wantEdgeWrite(t, "no key", l, xid, wrong, nil, edgeBad)
		}
	}
}

func TestWriteIsAsTheDocumentSays(t *testing.T) {
	codes := make([]int, 3)
	for seed := range uint64(150) {
		l := someTracks(seed + 900)
		for _, xid := range upTo(0, 22) {
			for _, key := range append(edgeKeys(), impl.Item{}) {
				want, code := plainWriteOf(l, xid, key, mostReads)
				wantEdgeWrite(t, "some tracks", l, xid, key, want, code)
				codes[code]++
			}
		}
	}
	if slices.Min(codes) < 500 {
		t.Errorf("codes: %v", codes)
	}
}
