package tests

import (
	"math"
	"slices"
	"testing"

	"loop.example/g00252/impl"
)

func TestDeedsOkOfRightAndWrongOnes(t *testing.T) {
	for _, of := range rightDeeds() {
		wantDeedsOk(t, of.name, of.l, true)
	}
	for _, of := range wrongDeeds() {
		wantDeedsOk(t, of.name, of.l, false)
	}
}

func TestDeedsOkByCount(t *testing.T) {
	for _, n := range []int{0, 1, 2, mostDeeds - 1, mostDeeds, mostDeeds + 1, mostDeeds + 2, 2 * mostDeeds, 256 + mostDeeds, 1000} {
		wantDeedsOk(t, "beside each other", besideEachOther(n), n <= mostDeeds)
		wantDeedsOk(t, "behind each other", behindEachOther(n), n <= mostDeeds)
		l := behindEachOther(n)
		slices.Reverse(l)
		wantDeedsOk(t, "the last one first", l, n <= mostDeeds)
	}
}

// The deeds around the one that is changed lie far from the numbers that are tried.
func TestDeedsOkByMoments(t *testing.T) {
	for at := range 3 {
		around := func(d impl.Deed) []impl.Deed {
			l := []impl.Deed{deedOf(5001, 5002), deedOf(5003, 5004)}
			return slices.Insert(l, at, d)
		}
		for _, begun := range []int{math.MinInt, math.MinInt + 1, -1 << 32, -2, -1, 0, 1, 2, 3, 1 << 32} {
			wantDeedsOk(t, "a Begun", around(deedOf(begun, math.MaxInt)), begun >= 1)
		}
		for _, begun := range []int{1, 2, 50, 1 << 40, math.MaxInt - 1} {
			for _, end := range []int{math.MinInt, -51, -50, -1, 0, 1, begun - 1, begun, begun + 1, math.MaxInt} {
				wantDeedsOk(t, "an Ended", around(deedOf(begun, end)), end > begun)
			}
		}
		wantDeedsOk(t, "Begun and Ended below 0", around(deedOf(-5, -3)), false)
		wantDeedsOk(t, "Begun 0 and Ended 1", around(deedOf(0, 1)), false)
		wantDeedsOk(t, "Begun 1 and Ended 2", around(deedOf(1, 2)), true)
		wantDeedsOk(t, "the greatest of both", around(deedOf(math.MaxInt, math.MaxInt)), false)
	}
}

func TestDeedsOkOfAnyTwoMomentsAlike(t *testing.T) {
	for _, n := range []int{2, 3, 5, mostDeeds} {
		for i := range n {
			for k := range n {
				if i == k {
					continue
				}
				l := besideEachOther(n)
				l[i].Begun = l[k].Begun
				wantDeedsOk(t, "two Begun alike", l, false)
				l = besideEachOther(n)
				l[i].Ended = l[k].Ended
				wantDeedsOk(t, "two Ended alike", l, false)
				l = besideEachOther(n)
				l[i].Begun, l[i].Ended = l[k].Ended, 10000
				wantDeedsOk(t, "a Begun that is another one's Ended", l, false)
				l[i].Begun = 9999
				wantDeedsOk(t, "a Begun of its own", l, true)
			}
		}
	}
}

func TestDeedsOkOfMomentsNextToEachOther(t *testing.T) {
	wantDeedsOk(t, "an Ended and the next Begun", []impl.Deed{deedOf(1, 2), deedOf(2, 3)}, false)
	wantDeedsOk(t, "a Begun and the last Ended", []impl.Deed{deedOf(2, 3), deedOf(5, 6), deedOf(1, 2)}, false)
	wantDeedsOk(t, "one deed twice", []impl.Deed{deedOf(1, 2), deedOf(1, 2)}, false)
	wantDeedsOk(t, "one deed, first and last", []impl.Deed{deedOf(1, 2), deedOf(5, 6), deedOf(1, 2)}, false)
	wantDeedsOk(t, "moments apart in their high bits alone", []impl.Deed{deedOf(1, 2), deedOf(1<<32+1, 1<<32+2), deedOf(1<<40+1, 1<<40+2)}, true)
}

func TestDeedsOkByReads(t *testing.T) {
	wrongs := []impl.Span{{}, spanOf(2, 1), {From: intItem(1)}, {To: intItem(1)}, {From: intItem(1), To: floatItem(minusNought())}, {From: textItem("a"), To: intItem(1)}, textSpan("", string(make([]byte, 41)))}
	for at := range 3 {
		for _, n := range []int{0, 1, 2, mostActs - 1, mostActs, mostActs + 1, 255, 256, 256 + mostActs, 1000} {
			l := besideEachOther(3)
			l[at].Reads = spansOf(upTo(1, n)...)
			wantDeedsOk(t, "Reads", l, n <= mostActs)
		}
		for _, n := range []int{1, 2, 5, mostActs} {
			for place := range n {
				for _, wrong := range wrongs {
					l := besideEachOther(3)
					l[at].Reads = spansOf(upTo(1, n)...)
					l[at].Reads[place] = wrong
					wantDeedsOk(t, "a span that is not SpanOk", l, false)
				}
			}
		}
	}
	wantDeedsOk(t, "spans that overlap and reach over kinds", []impl.Deed{readingSpans(deedOf(1, 2), edgeSpans()...)}, true)
}

func TestDeedsOkByWrites(t *testing.T) {
	wrongs := []impl.Item{{}, floatItem(minusNought()), {Kind: impl.ItText, T: make([]byte, 41)}, {Kind: impl.ItInt, F: 1}, {Kind: 4}}
	for at := range 3 {
		for _, n := range []int{0, 1, 2, mostActs - 1, mostActs, mostActs + 1, 255, 256, 256 + mostActs, 1000} {
			l := besideEachOther(3)
			l[at].Writes = intItems(upTo(1, n)...)
			wantDeedsOk(t, "Writes", l, n <= mostActs)
			l[at].Writes = intItems(sameOf(n, 5)...)
			wantDeedsOk(t, "one key many times", l, n <= mostActs)
		}
		for _, n := range []int{1, 2, 5, mostActs} {
			for place := range n {
				for _, wrong := range wrongs {
					l := besideEachOther(3)
					l[at].Writes = intItems(upTo(1, n)...)
					l[at].Writes[place] = wrong
					wantDeedsOk(t, "a key that is not KeyOk", l, false)
				}
			}
		}
	}
	for _, key := range risingKeys() {
		wantDeedsOk(t, "a key", []impl.Deed{writingKeys(deedOf(1, 2), key)}, true)
	}
	for _, key := range noKeys() {
		wantDeedsOk(t, "no key", []impl.Deed{writingKeys(deedOf(1, 2), key)}, false)
		wantDeedsOk(t, "no key as From", []impl.Deed{readingSpans(deedOf(1, 2), impl.Span{From: key, To: longText("\xFF")})}, false)
		wantDeedsOk(t, "no key as To", []impl.Deed{readingSpans(deedOf(1, 2), impl.Span{From: intItem(math.MinInt), To: key})}, false)
	}
}

// What is said of an Xid counts for nothing, here and in all that is told of such lists.
func TestDeedsAreTheSameWhateverTheirXids(t *testing.T) {
	for _, of := range slices.Concat(rightDeeds(), wrongDeeds()) {
		pairs, ring := impl.GraphEdges(of.l), impl.GraphRing(of.l)
		order, hasOrder := impl.GraphOrder(of.l)
		isSerial := impl.GraphSerial(of.l, order)
		for _, xid := range []int{math.MinInt, -1, 0, 1, lastXid, lastXid + 1, math.MaxInt} {
			for _, by := range []int{0, 1, -1} {
				l := changedDeeds(of.l, func(l []impl.Deed) {
					for i := range l {
						l[i].Xid = xid + by*i
					}
				})
				wantDeedsOk(t, of.name, l, impl.DeedsOk(of.l))
				wantPairs(t, of.name, l, pairs...)
				wantRound(t, of.name, l, ring...)
				if hasOrder {
					wantTurns(t, of.name, l, order...)
				} else {
					wantNoTurns(t, of.name, l)
				}
				wantSerial(t, of.name, l, isSerial, order...)
			}
		}
	}
}

// All lists of two over few moments.
func TestDeedsOkIsAsTheDocumentSays(t *testing.T) {
	for n := range 6 * 6 * 6 * 6 {
		l := []impl.Deed{deedOf(n%6-1, n/6%6-1), deedOf(n/36%6-1, n/216-1)}
		wantDeedsOk(t, "two", l, plainDeedsOk(l))
	}
	for _, of := range slices.Concat(rightDeeds(), wrongDeeds()) {
		if plainDeedsOk(of.l) != impl.DeedsOk(of.l) {
			t.Errorf("%s: DeedsOk is %t", of.name, impl.DeedsOk(of.l))
		}
	}
}
