package tests

import (
	"math"
	"testing"

	"loop.example/g00252/impl"
)

func TestReadsOfItemsThatAreNoKeys(t *testing.T) {
	wide := impl.Span{From: intItem(math.MinInt), To: longText("\xFF")}
	for _, wrong := range noKeys() {
		wantReads(t, "All is set", withAll(active(1, 1)), wrong, false)
		wantReads(t, "a span of everything", withSpans(active(1, 1), wide), wrong, false)
		wantReads(t, "both", impl.Track{All: true, Reads: []impl.Span{wide}}, wrong, false)
		wantReads(t, "a span of itself", withSpans(active(1, 1), impl.Span{From: wrong, To: wrong}), wrong, false)
	}
}

func TestReadsWhereAllIsSet(t *testing.T) {
	for _, key := range risingKeys() {
		wantReads(t, "All and no Reads", withAll(active(1, 1)), key, true)
		wantReads(t, "All alone", impl.Track{All: true}, key, true)
		wantReads(t, "All and Reads elsewhere", impl.Track{All: true, Reads: spansOf(12345)}, key, true)
		wantReads(t, "All and wrong Reads", impl.Track{All: true, Reads: []impl.Span{{}}}, key, true)
		wantReads(t, "All of one that ended", withAll(ended(1, 1, 2)), key, true)
		wantReads(t, "no Reads", active(1, 1), key, false)
		wantReads(t, "an empty list", impl.Track{Reads: []impl.Span{}}, key, false)
		wantReads(t, "its own writes", withKeys(active(1, 1), key), key, false)
	}
}

func TestReadsBySpans(t *testing.T) {
	for _, n := range []int{1, 2, 3, mostReads, mostReads + 1, 50} {
		var spans []impl.Span
		for i := range n {
			spans = append(spans, spanOf(10*i, 10*i+4))
		}
		for i := range n {
			for step := -1; step <= 5; step++ {
				wantReads(t, "a span", withSpans(active(1, 1), spans...), intItem(10*i+step), step >= 0 && step <= 4)
			}
			wantReads(t, "another kind", withSpans(active(1, 1), spans...), floatItem(float64(10*i)), false)
		}
		wantReads(t, "behind all", withSpans(active(1, 1), spans...), intItem(10*n), false)
	}
}

// At both ends of a span, and at the keys next to them.
func TestReadsAtBothEnds(t *testing.T) {
	keys := risingKeys()
	for from := 0; from < len(keys); from += 3 {
		for to := from; to < len(keys); to += 5 {
			track := withSpans(active(1, 1), impl.Span{From: keys[from], To: keys[to]})
			for _, at := range []int{from - 1, from, from + 1, to - 1, to, to + 1, 0, len(keys) - 1} {
				if at >= 0 && at < len(keys) {
					wantReads(t, "near an end", track, keys[at], from <= at && at <= to)
				}
			}
		}
	}
}

func TestReadsOfSpansThatAreNotOk(t *testing.T) {
	behind := impl.Span{From: intItem(5), To: intItem(3)}
	for _, n := range []int{2, 3, 4, 5, 6} {
		wantReads(t, "From behind To", withSpans(active(1, 1), behind), intItem(n), false)
		wantReads(t, "From behind To, and a right one", withSpans(active(1, 1), behind, spanOf(4, 4)), intItem(n), n == 4)
		wantReads(t, "a right one, and From behind To", withSpans(active(1, 1), spanOf(4, 4), behind), intItem(n), n == 4)
	}
	for _, wrong := range noKeys() {
		wantReads(t, "From is no key", withSpans(active(1, 1), impl.Span{From: wrong, To: longText("\xFF")}), intItem(5), false)
		wantReads(t, "To is no key", withSpans(active(1, 1), impl.Span{From: intItem(math.MinInt), To: wrong}), intItem(5), false)
		wantReads(t, "a right one behind", withSpans(active(1, 1), impl.Span{From: wrong, To: wrong}, spanOf(5, 5)), intItem(5), true)
	}
}

func TestReadsOfNaNs(t *testing.T) {
	track := withSpans(active(1, 1), impl.Span{From: floatItem(plainNaN()), To: floatItem(plainNaN())})
	for _, bits := range strangeNaNs() {
		wantReads(t, "NaNs are one", track, floatItem(math.Float64frombits(bits)), true)
	}
	wantReads(t, "all below", track, floatItem(math.Inf(1)), false)
	wantReads(t, "a +0 by a span that is its own", withSpans(active(1, 1), impl.Span{From: floatItem(0), To: floatItem(0)}), floatItem(0), true)
}

// The other fields say nothing, be they as the chapter wants them or not.
func TestReadsByKeyAndReadsAlone(t *testing.T) {
	for _, xid := range farNumbers() {
		track := impl.Track{Xid: xid, Begun: -xid, Ended: xid / 2, Reads: spansOf(5), Writes: intItems(6), In: true, Out: true}
		wantReads(t, "in its span", track, intItem(5), true)
		wantReads(t, "not in its span", track, intItem(6), false)
	}
}

func TestReadsIsAsTheDocumentSays(t *testing.T) {
	for seed := range uint64(60) {
		for _, track := range someTracks(seed) {
			for _, key := range append(edgeKeys(), impl.Item{}, floatItem(minusNought())) {
				wantReads(t, "some track", track, key, plainTrackReads(track, key))
			}
		}
	}
}

func TestConcurrentPlainly(t *testing.T) {
	wantConcurrent(t, "both active", active(1, 5), active(2, 9), true)
	wantConcurrent(t, "both active, begun at once", active(1, 5), active(2, 5), true)
	wantConcurrent(t, "one ended ahead", ended(1, 5, 8), active(2, 9), false)
	wantConcurrent(t, "one ended at it", ended(1, 5, 9), active(2, 9), false)
	wantConcurrent(t, "one ended behind it", ended(1, 5, 10), active(2, 9), true)
	wantConcurrent(t, "the other one began first", ended(1, 5, 10), active(2, 3), true)
	wantConcurrent(t, "both ended, one ahead", ended(1, 5, 8), ended(2, 9, 12), false)
	wantConcurrent(t, "both ended, at it", ended(1, 5, 9), ended(2, 9, 12), false)
	wantConcurrent(t, "both ended, side by side", ended(1, 5, 10), ended(2, 9, 12), true)
	wantConcurrent(t, "both ended, one within the other", ended(1, 5, 20), ended(2, 9, 12), true)
	wantConcurrent(t, "both ended at once", ended(1, 5, 12), ended(2, 9, 12), true)
	wantConcurrent(t, "far apart", ended(1, 1, 2), active(2, math.MaxInt), false)
	wantConcurrent(t, "up to the last", ended(1, 1, math.MaxInt), active(2, math.MaxInt-1), true)
	wantConcurrent(t, "at the last", ended(1, 1, math.MaxInt), active(2, math.MaxInt), false)
}

func TestConcurrentWithItself(t *testing.T) {
	for _, track := range []impl.Track{active(1, 5), ended(1, 5, 6), ended(1, 1, math.MaxInt), withAll(active(2, 1))} {
		wantConcurrent(t, "with itself", track, track, true)
	}
	wantConcurrent(t, "one that is no track, with itself", ended(1, 5, 5), ended(1, 5, 5), false)
	wantConcurrent(t, "one that ended ahead of its Begun, with itself", ended(1, 5, 4), ended(1, 5, 4), false)
	wantConcurrent(t, "the zero value, with itself", impl.Track{}, impl.Track{}, true)
}

// Tracks that are TracksOk or not: Begun and Ended alone say it, both ways round alike.
func TestConcurrentOfAnyNumbers(t *testing.T) {
	near := upTo(-3, 5)
	far := []int{math.MinInt, math.MinInt + 1, -1 << 32, -1, 0, 1, 1 << 31, 1 << 32, math.MaxInt - 1, math.MaxInt}
	for _, numbers := range [][]int{near, far} {
		for _, b1 := range numbers {
			for _, e1 := range numbers {
				for _, b2 := range numbers {
					for _, e2 := range numbers {
						a, b := ended(1, b1, e1), ended(2, b2, e2)
						wantConcurrent(t, "any numbers", a, b, plainConcurrent(a, b))
					}
				}
			}
		}
	}
}

func TestConcurrentByBegunAndEndedAlone(t *testing.T) {
	full := impl.Track{Xid: -7, All: true, Reads: []impl.Span{{}}, Writes: []impl.Item{{}}, In: true, Out: true}
	for _, of := range [][4]int{{1, 0, 2, 0}, {1, 2, 2, 0}, {1, 3, 2, 0}, {1, 3, 2, 4}, {3, 4, 1, 3}, {0, -1, 0, -1}} {
		a, b := full, full
		a.Begun, a.Ended, b.Begun, b.Ended = of[0], of[1], of[2], of[3]
		wantConcurrent(t, "other fields", a, b, plainConcurrent(a, b))
		wantConcurrent(t, "other fields", a, ended(1, b.Begun, b.Ended), plainConcurrent(a, b))
	}
}
