package tests

import (
	"fmt"
	"slices"
	"testing"

	"loop.example/g00252/impl"
)

// wantIsRound fails where the ring is none by the pairs, from each one to the one ahead of it and from the first to the last.
func wantIsRound(t *testing.T, name string, pairs [][2]int, ring []int) {
	t.Helper()
	if len(ring) < 2 || len(slices.Compact(slices.Sorted(slices.Values(ring)))) != len(ring) {
		t.Errorf("%s: %v is no ring", name, ring)
		return
	}
	for i, place := range ring {
		next := ring[(i+1)%len(ring)]
		if !slices.Contains(pairs, [2]int{next, place}) {
			t.Errorf("%s: no pair leads from %d to %d in the ring %v", name, next, place, ring)
		}
	}
}

func TestNoRingWhereThereIsAnOrder(t *testing.T) {
	wantRound(t, "no list", nil)
	wantRound(t, "an empty list", []impl.Deed{})
	for _, n := range []int{1, 2, 3, 10, mostDeeds} {
		wantRound(t, "beside each other", besideEachOther(n))
		for _, order := range ordersOf(n) {
			wantRound(t, "a row, "+order.name, graphOf(n, aheadOfEachOther(order.at...)...))
		}
	}
	wantRound(t, "one that reads what it wrote", []impl.Deed{writing(reading(deedOf(1, 2), 5), 5)})
	wantRound(t, "two ways to one", graphOf(4, pairsOf(3, 1, 3, 2, 1, 0, 2, 0)...))
}

func TestNoRingOfWrongDeeds(t *testing.T) {
	for _, of := range wrongDeeds() {
		wantRound(t, of.name, of.l)
	}
}

func TestRoundOfTwoAndThreePlainly(t *testing.T) {
	wantRound(t, "two", graphOf(2, pairsOf(0, 1, 1, 0)...), 0, 1)
	wantRound(t, "two, one between", graphOf(3, pairsOf(2, 0, 0, 2)...), 0, 2)
	wantRound(t, "the last two", graphOf(3, pairsOf(2, 1, 1, 2)...), 1, 2)
	// One goes from each place to the one ahead of it: against the pairs.
	wantRound(t, "three", graphOf(3, pairsOf(0, 1, 1, 2, 2, 0)...), 0, 2, 1)
	wantRound(t, "three, the other way", graphOf(3, pairsOf(0, 2, 2, 1, 1, 0)...), 0, 1, 2)
	wantRound(t, "three of five", graphOf(5, pairsOf(1, 4, 4, 3, 3, 1)...), 1, 3, 4)
	skew := []impl.Deed{deedOf(5, 6), writing(reading(deedOf(1, 3), 1), 2), writing(reading(deedOf(2, 4), 2), 1)}
	wantRound(t, "each reads what the other one writes", skew, 1, 2)
	three := []impl.Deed{writing(reading(deedOf(1, 9), 2), 1), writing(deedOf(2, 3), 2), reading(deedOf(4, 5), 1, 2)}
	wantRound(t, "one that only reads closes the ring", three, 0, 2, 1)
}

// A ring is told from its least place on, where one begins there, against the pairs.
func TestRoundOfMany(t *testing.T) {
	for _, n := range []int{2, 3, 4, 17, mostDeeds - 1, mostDeeds} {
		for _, order := range ordersOf(n) {
			want := fromOn(order.at, slices.Index(order.at, 0))
			slices.Reverse(want[1:])
			wantRound(t, "a ring, "+order.name, graphOf(n, roundOf(order.at...)...), want...)
		}
	}
}

// Who can be taken stands in no way and in no ring, though a pair leads from it into the ring.
func TestPlacesThatLeadIntoTheRing(t *testing.T) {
	wantRound(t, "one ahead of it, the least", graphOf(3, append(roundOf(1, 2), pairsOf(0, 1)...)...), 1, 2)
	wantRound(t, "one ahead of both", graphOf(3, append(roundOf(1, 2), pairsOf(0, 1, 0, 2)...)...), 1, 2)
	wantRound(t, "one ahead of it, the greatest", graphOf(3, append(roundOf(0, 1), pairsOf(2, 0)...)...), 0, 1)
	wantRound(t, "a row ahead of it", graphOf(6, append(roundOf(4, 5), pairsOf(0, 3, 3, 1, 1, 2, 2, 4, 0, 5)...)...), 4, 5)
	wantRound(t, "one ahead of it between two of it", graphOf(5, append(roundOf(0, 3, 4), pairsOf(1, 3, 2, 4, 1, 0)...)...), 0, 4, 3)
}

// Who stands behind a ring cannot be taken; one may come from there into the ring, and it is not of it.
func TestPlacesBehindTheRing(t *testing.T) {
	wantRound(t, "one behind it, the least", graphOf(3, append(roundOf(1, 2), pairsOf(1, 0)...)...), 1, 2)
	wantRound(t, "one behind it, entered at the greater", graphOf(3, append(roundOf(1, 2), pairsOf(2, 0)...)...), 2, 1)
	wantRound(t, "one behind both", graphOf(3, append(roundOf(1, 2), pairsOf(2, 0, 1, 0)...)...), 1, 2)
	wantRound(t, "a row behind it", graphOf(6, append(roundOf(4, 5), pairsOf(5, 2, 2, 1, 1, 3, 3, 0)...)...), 5, 4)
	wantRound(t, "one behind it, the greatest", graphOf(3, append(roundOf(0, 1), pairsOf(1, 2)...)...), 0, 1)
	wantRound(t, "a ring of three, entered in the middle", graphOf(4, append(roundOf(1, 2, 3), pairsOf(2, 0)...)...), 2, 1, 3)
	long := append(roundOf(98, 99), aheadOfEachOther(99, 50)...)
	for place := 50; place > 0; place-- {
		long = append(long, [2]int{place, place - 1})
	}
	wantRound(t, "a long way into it", graphOf(mostDeeds, long...), 99, 98)
}

func TestTwoRings(t *testing.T) {
	wantRound(t, "apart, the least first", graphOf(4, append(roundOf(0, 1), roundOf(2, 3)...)...), 0, 1)
	wantRound(t, "apart, one around the other", graphOf(4, append(roundOf(1, 2), roundOf(0, 3)...)...), 0, 3)
	wantRound(t, "the way leads to the greater one", graphOf(5, append(append(roundOf(1, 2), roundOf(3, 4)...), pairsOf(3, 0)...)...), 3, 4)
	wantRound(t, "the way goes on to the least", graphOf(5, append(append(roundOf(1, 2), roundOf(3, 4)...), pairsOf(3, 0, 2, 0)...)...), 2, 1)
	wantRound(t, "one behind the other, the lesser behind", graphOf(4, append(append(roundOf(0, 1), roundOf(2, 3)...), pairsOf(2, 1)...)...), 0, 1)
	wantRound(t, "through one place", graphOf(3, append(roundOf(0, 1), roundOf(0, 2)...)...), 0, 1)
	wantRound(t, "through one place, the greatest", graphOf(3, append(roundOf(2, 1), roundOf(0, 2)...)...), 0, 2)
	wantRound(t, "a longer one by a lesser place", graphOf(4, append(roundOf(0, 3), pairsOf(1, 0, 3, 1)...)...), 0, 1, 3)
	wantRound(t, "the way leaves the place from which it came", graphOf(3, append(roundOf(1, 0, 2), pairsOf(2, 1, 1, 2)...)...), 0, 1, 2)
}

// Of several that stand ahead of one, one goes to the least that is left.
func TestTheWayGoesToTheLeast(t *testing.T) {
	n := 12
	for least := 1; least < n; least++ {
		var pairs [][2]int
		for a := least; a < n; a++ {
			pairs = append(pairs, [2]int{a, 0}, [2]int{0, a})
		}
		wantRound(t, fmt.Sprint("from ", least, " on"), graphOf(n, pairs...), 0, least)
	}
	all := allGraphs(4)
	wantRound(t, "all pairs there are", graphOf(4, all[len(all)-1]...), 0, 1)
}

func TestRoundOfAllGraphs(t *testing.T) {
	for n := range 5 {
		for _, pairs := range allGraphs(n) {
			name := fmt.Sprint(n, " with the pairs ", pairs)
			want := plainGraphRing(n, pairs)
			wantRound(t, name, graphOf(n, pairs...), want...)
			if len(want) > 0 {
				wantIsRound(t, name, pairs, want)
			}
		}
	}
}

func TestRoundOfGraphsOfMany(t *testing.T) {
	rings, long := 0, 0
	for seed := range uint64(120) {
		n := 5 + int(seed*7%96)
		pairs := someGraph(n, n*(1+int(seed%3))/2, seed+177)
		want := plainGraphRing(n, pairs)
		rings += oneIf(len(want) > 0)
		long += oneIf(len(want) > 3)
		wantRound(t, fmt.Sprint("seed ", seed), graphOf(n, pairs...), want...)
	}
	if rings < 20 || long < 10 {
		t.Errorf("%d of 120 have a ring, %d a long one", rings, long)
	}
}
