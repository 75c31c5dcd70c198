package tests

import (
	"math"
	"slices"
	"testing"

	"loop.example/g00252/impl"
)

func TestLimitsOfTracksAreAsTheDocumentNamesThem(t *testing.T) {
	got := []int{impl.MaxTracks, impl.MaxReads, impl.MaxKeys, impl.EdgeWell, impl.EdgeBad, impl.EdgeDanger}
	if want := []int{64, 6, 200, 0, 1, 2}; !slices.Equal(got, want) {
		t.Errorf("limits and codes are %v, want %v", got, want)
	}
}

func TestSpanOkOfItemsThatAreNoKeys(t *testing.T) {
	for _, wrong := range noKeys() {
		for _, right := range someKeys() {
			wantSpanOk(t, "From is no key", impl.Span{From: wrong, To: right}, false)
			wantSpanOk(t, "To is no key", impl.Span{From: right, To: wrong}, false)
		}
		wantSpanOk(t, "both are no keys", impl.Span{From: wrong, To: wrong}, false)
	}
	least, most := intItem(math.MinInt), longText("\xFF")
	for _, wrong := range []impl.Item{
		{}, floatItem(minusNought()), {Kind: impl.ItText, T: make([]byte, 41)},
		{Kind: impl.ItInt, F: 1}, {Kind: impl.ItInt, T: []byte("a")}, {Kind: impl.ItFloat, N: 1}, {Kind: impl.ItText, N: 1}, {Kind: impl.ItText, F: minusNought()},
	} {
		wantSpanOk(t, "From is no key, To the last of all", impl.Span{From: wrong, To: most}, false)
		wantSpanOk(t, "To is no key, From the first of all", impl.Span{From: least, To: wrong}, false)
	}
	wantSpanOk(t, "the zero value", impl.Span{}, false)
}

// Kinds one behind the other stand among these keys too.
func TestSpanOkByOrder(t *testing.T) {
	keys := risingKeys()
	for i, from := range keys {
		for k, to := range keys {
			wantSpanOk(t, "two keys", impl.Span{From: from, To: to}, i <= k)
		}
	}
	wantSpanOk(t, "a whole number and a float", impl.Span{From: intItem(9), To: floatItem(-9)}, true)
	wantSpanOk(t, "a float and a whole number", impl.Span{From: floatItem(-9), To: intItem(9)}, false)
	wantSpanOk(t, "a float and a text", impl.Span{From: floatItem(plainNaN()), To: textItem("")}, true)
	wantSpanOk(t, "a text and a float", impl.Span{From: textItem(""), To: floatItem(plainNaN())}, false)
	wantSpanOk(t, "a beginning first", textSpan("ab", "abc"), true)
	wantSpanOk(t, "a beginning last", textSpan("abc", "ab"), false)
}

func TestSpanOkOfNaNs(t *testing.T) {
	nans := []float64{plainNaN(), math.NaN()}
	for _, bits := range strangeNaNs() {
		nans = append(nans, math.Float64frombits(bits))
	}
	for _, a := range nans {
		for _, b := range nans {
			wantSpanOk(t, "NaNs are one", impl.Span{From: floatItem(a), To: floatItem(b)}, true)
		}
		wantSpanOk(t, "up to a NaN", impl.Span{From: floatItem(math.Inf(1)), To: floatItem(a)}, true)
		wantSpanOk(t, "from a NaN on", impl.Span{From: floatItem(a), To: floatItem(math.Inf(1))}, false)
		wantSpanOk(t, "from a NaN to a text", impl.Span{From: floatItem(a), To: textItem("")}, true)
	}
}

func TestTracksOkOfRightAndWrongLists(t *testing.T) {
	for _, of := range rightTracks() {
		wantTracksOk(t, of.name, of.l, true)
	}
	for _, of := range wrongTracks() {
		wantTracksOk(t, of.name, of.l, false)
	}
	for seed := range uint64(100) {
		wantTracksOk(t, "some tracks", someTracks(seed), true)
	}
}

func TestTracksOkUpToMaxTracks(t *testing.T) {
	for _, n := range append(upTo(0, 70), 128, 256, lastXid, lastXid+1, 5000) {
		wantTracksOk(t, "active ones", actives(n), n <= mostTracks)
	}
	for _, end := range []int{0, 9999} {
		l := changedTracks(actives(mostTracks), func(l []impl.Track) {
			for i := range l {
				l[i].Ended = end
			}
		})
		wantTracksOk(t, "MaxTracks", l, true)
		wantTracksOk(t, "one more", append(l, ended(99, 1, 2)), false)
	}
}

func TestTracksOkOfAnyTwoAlike(t *testing.T) {
	for _, n := range []int{2, 3, 5, mostTracks} {
		for i := range n {
			for k := range i {
				for _, end := range []int{0, 9999} {
					l := actives(n)
					l[i].Ended = end
					l[i].Xid = l[k].Xid
					wantTracksOk(t, "one Xid twice", l, false)
					l = actives(n)
					l[i].Begun, l[i].Ended = l[k].Begun, end
					wantTracksOk(t, "one Begun twice", l, true)
				}
			}
		}
	}
}

func TestTracksOkByNumbers(t *testing.T) {
	for at := range 3 {
		for _, xid := range []int{math.MinInt, -lastXid, -1, 0, 1, 2, 9, 255, 256, lastXid - 1, lastXid, lastXid + 1, 512, 1<<32 + 9, math.MaxInt} {
			l := tracksOf(active(11, 1), active(12, 1), active(13, 1))
			l[at].Xid = xid
			wantTracksOk(t, "an Xid", l, xid >= 1 && xid <= lastXid)
		}
		for _, begun := range []int{math.MinInt, -2, -1, 0, 1, 2, 1 << 40, math.MaxInt} {
			l := actives(3)
			l[at].Begun = begun
			wantTracksOk(t, "a Begun", l, begun >= 1)
		}
		for _, begun := range []int{1, 2, 50} {
			for _, end := range []int{math.MinInt, -51, -50, -2, -1, 0, 1, 2, 3, 49, 50, 51, 1 << 40, math.MaxInt} {
				l := actives(3)
				l[at].Begun, l[at].Ended = begun, end
				wantTracksOk(t, "an Ended", l, end == 0 || end > begun)
			}
		}
	}
	wantTracksOk(t, "Begun 0 and Ended above it", tracksOf(ended(1, 0, 5)), false)
	wantTracksOk(t, "Begun and Ended below 0", tracksOf(ended(1, -5, -3)), false)
	wantTracksOk(t, "the greatest of both", tracksOf(ended(1, math.MaxInt, math.MaxInt)), false)
}

func TestTracksOkByReads(t *testing.T) {
	wrongs := []impl.Span{{}, spanOf(2, 1), {From: intItem(1)}, {To: intItem(1)}, {From: intItem(1), To: floatItem(minusNought())}, {From: textItem("a"), To: intItem(1)}, textSpan("", string(make([]byte, 41)))}
	for at := range 3 {
		for _, n := range append(upTo(0, 20), 200, 256+mostReads) {
			for _, all := range []bool{false, true} {
				l := actives(3)
				l[at].Reads, l[at].All = spansOf(upTo(1, n)...), all
				wantTracksOk(t, "Reads", l, n == 0 || n <= mostReads && !all)
			}
		}
		for _, n := range upTo(1, mostReads) {
			for place := range n {
				for _, wrong := range wrongs {
					l := actives(3)
					l[at].Reads = spansOf(upTo(1, n)...)
					l[at].Reads[place] = wrong
					wantTracksOk(t, "a span that is not SpanOk", l, false)
				}
			}
		}
	}
}

func TestTracksOkByWrites(t *testing.T) {
	wrongs := []impl.Item{{}, floatItem(minusNought()), {Kind: impl.ItText, T: make([]byte, 41)}, {Kind: impl.ItInt, F: 1}, {Kind: 4}}
	for at := range 3 {
		for _, n := range []int{0, 1, 2, mostKeys - 1, mostKeys, mostKeys + 1, 255, 256, 256 + mostKeys, 1000} {
			for _, all := range []bool{false, true} {
				l := actives(3)
				l[at].Writes, l[at].All = intItems(upTo(1, n)...), all
				wantTracksOk(t, "Writes", l, n <= mostKeys)
			}
		}
		for _, n := range []int{1, 2, 5, mostKeys} {
			for place := range n {
				for _, wrong := range wrongs {
					l := actives(3)
					l[at].Writes = intItems(upTo(1, n)...)
					l[at].Writes[place] = wrong
					wantTracksOk(t, "a key that is not KeyOk", l, false)
				}
			}
		}
	}
}

// All lists of two over few numbers, with marks in all four ways, which say nothing.
func TestTracksOkIsAsTheDocumentSays(t *testing.T) {
	for n := range 5 * 5 * 4 * 4 * 2 * 2 * 2 {
		take := func(most int) int {
			x := n % most
			n /= most
			return x
		}
		a := impl.Track{Xid: take(5) - 1, Begun: take(5) - 1, Ended: take(4) - 1, All: take(2) == 1, In: take(2) == 1, Out: take(2) == 1}
		if take(4)%2 == 1 {
			a.Reads = spansOf(1)
		}
		l := tracksOf(a, active(2, 1))
		wantTracksOk(t, "two", l, plainTracksOk(l, mostReads))
		l[0], l[1] = l[1], l[0]
		wantTracksOk(t, "two, the other way round", l, plainTracksOk(l, mostReads))
	}
}
