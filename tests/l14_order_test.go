package tests

import (
	"fmt"
	"slices"
	"testing"

	"loop.example/g00252/impl"
)

func TestOrderWithoutPairsIsThatOfThePlaces(t *testing.T) {
	wantTurns(t, "no list", nil)
	wantTurns(t, "an empty list", []impl.Deed{})
	for _, n := range []int{1, 2, 3, 10, mostDeeds - 1, mostDeeds} {
		wantTurns(t, "beside each other", besideEachOther(n), upTo(0, n-1)...)
		wantTurns(t, "behind each other", behindEachOther(n), upTo(0, n-1)...)
		l := behindEachOther(n)
		slices.Reverse(l)
		wantTurns(t, "the last one first", l, upTo(0, n-1)...)
	}
	wantTurns(t, "one that reads what it wrote", []impl.Deed{writing(reading(deedOf(1, 2), 5), 5)}, 0)
}

func TestOrderOfTwo(t *testing.T) {
	wantTurns(t, "from the lesser place to the greater", graphOf(2, pairsOf(0, 1)...), 0, 1)
	wantTurns(t, "from the greater place to the lesser", graphOf(2, pairsOf(1, 0)...), 1, 0)
	wantNoTurns(t, "both", graphOf(2, pairsOf(0, 1, 1, 0)...))
	wantTurns(t, "a reader ahead of who ended first", []impl.Deed{writing(deedOf(2, 3), 1), reading(deedOf(1, 6), 1)}, 1, 0)
	wantTurns(t, "two that write, by their ends", []impl.Deed{writing(deedOf(1, 6), 1), writing(deedOf(2, 3), 1)}, 1, 0)
}

// Each time the least that may be taken, not the first in a row of those that came to be free.
func TestOrderTakesTheLeastEachTime(t *testing.T) {
	wantTurns(t, "one waits, the others go on", graphOf(4, pairsOf(3, 0)...), 1, 2, 3, 0)
	wantTurns(t, "a lesser one is free at once", graphOf(4, pairsOf(1, 0)...), 1, 0, 2, 3)
	wantTurns(t, "several wait for one", graphOf(5, pairsOf(4, 0, 4, 1, 4, 2)...), 3, 4, 0, 1, 2)
	wantTurns(t, "one waits for several", graphOf(5, pairsOf(2, 0, 4, 0, 3, 0)...), 1, 2, 3, 4, 0)
	wantTurns(t, "back and forth", graphOf(5, pairsOf(2, 0, 0, 4, 4, 1)...), 2, 0, 3, 4, 1)
	wantTurns(t, "two ways to one", graphOf(4, pairsOf(3, 1, 3, 2, 1, 0, 2, 0)...), 3, 1, 2, 0)
	wantTurns(t, "two rows", graphOf(6, pairsOf(5, 4, 4, 3, 2, 1, 1, 0)...), 2, 1, 0, 5, 4, 3)
	wantTurns(t, "a pair over others", graphOf(4, pairsOf(0, 1, 1, 2, 2, 3, 0, 3, 0, 2)...), 0, 1, 2, 3)
}

func TestOrderOfARow(t *testing.T) {
	for _, n := range []int{2, 3, 10, mostDeeds - 1, mostDeeds} {
		for _, order := range ordersOf(n) {
			wantTurns(t, "a row, "+order.name, graphOf(n, aheadOfEachOther(order.at...)...), order.at...)
			wantNoTurns(t, "a ring, "+order.name, graphOf(n, roundOf(order.at...)...))
		}
	}
}

// All pairs that an order of MaxDeeds may have.
func TestOrderOfAllPairs(t *testing.T) {
	for _, n := range []int{4, 30, mostDeeds} {
		for _, order := range ordersOf(n) {
			l := besideEachOther(n)
			for turn, place := range order.at {
				l[place] = writing(deedOf(1+2*turn, 2+2*turn), 5)
			}
			wantTurns(t, "all write one key, "+order.name, l, order.at...)
			for turn, place := range order.at {
				l[place] = readingSpans(writing(deedOf(1+2*turn, 2+2*turn), turn), spanOf(0, n))
			}
			wantTurns(t, "all read all keys, "+order.name, l, order.at...)
		}
	}
}

func TestNoOrderWithARing(t *testing.T) {
	for _, of := range []struct {
		name  string
		n     int
		pairs [][2]int
	}{
		{"two", 2, roundOf(0, 1)},
		{"three", 3, roundOf(0, 1, 2)},
		{"three, the other way", 3, roundOf(0, 2, 1)},
		{"one ahead of it can be taken", 3, append(roundOf(1, 2), pairsOf(0, 1)...)},
		{"one ahead of it, with a greater place", 3, append(roundOf(0, 1), pairsOf(2, 0)...)},
		{"one beside it can be taken", 3, roundOf(0, 2)},
		{"one behind it", 3, append(roundOf(0, 2), pairsOf(2, 1)...)},
		{"many can be taken", 40, append(roundOf(20, 30), aheadOfEachOther(upTo(0, 20)...)...)},
		{"two rings", 4, append(roundOf(0, 1), roundOf(2, 3)...)},
		{"the last two of MaxDeeds", mostDeeds, roundOf(98, 99)},
		{"the first and the last of MaxDeeds", mostDeeds, roundOf(0, 99)},
	} {
		wantNoTurns(t, of.name, graphOf(of.n, of.pairs...))
	}
	skew := []impl.Deed{writing(reading(deedOf(1, 3), 1), 2), writing(reading(deedOf(2, 4), 2), 1), deedOf(5, 6)}
	wantNoTurns(t, "each reads what the other one writes", skew)
	lost := []impl.Deed{deedOf(5, 6), writing(reading(deedOf(1, 3), 1), 1), writing(reading(deedOf(2, 4), 1), 1)}
	wantNoTurns(t, "both read and write one key", lost)
	// The reader sees the second one's end and not the first one's.
	three := []impl.Deed{writing(reading(deedOf(1, 9), 2), 1), writing(deedOf(2, 3), 2), reading(deedOf(4, 5), 1, 2)}
	wantNoTurns(t, "one that only reads closes the ring", three)
	wantTurns(t, "the same without it", three[:2], 0, 1)
}

func TestNoOrderOfWrongDeeds(t *testing.T) {
	for _, of := range wrongDeeds() {
		wantNoTurns(t, of.name, of.l)
	}
}

func TestOrderOfAllGraphs(t *testing.T) {
	rings := 0
	for n := range 5 {
		for _, pairs := range allGraphs(n) {
			l := graphOf(n, pairs...)
			name := fmt.Sprint(n, " with the pairs ", pairs)
			// The least of all orders that keep the pairs is the one that takes the least each time.
			keeps := func(order []int) bool {
				return !slices.ContainsFunc(pairs, func(p [2]int) bool { return slices.Index(order, p[0]) > slices.Index(order, p[1]) })
			}
			orders := allTurns(n)
			if at := slices.IndexFunc(orders, keeps); at >= 0 {
				wantTurns(t, name, l, orders[at]...)
			} else {
				rings++
				wantNoTurns(t, name, l)
			}
		}
	}
	if rings != 1+(64-25)+(4096-543) {
		t.Errorf("%d graphs without an order", rings)
	}
}

func TestOrderOfGraphsOfMany(t *testing.T) {
	orders := 0
	for seed := range uint64(120) {
		n := 5 + int(seed*7%96)
		pairs := someGraph(n, n*(1+int(seed%4))/2, seed+77)
		l := graphOf(n, pairs...)
		want, ok := plainGraphOrder(n, pairs)
		if ok {
			orders++
			wantTurns(t, fmt.Sprint("seed ", seed), l, want...)
		} else {
			wantNoTurns(t, fmt.Sprint("seed ", seed), l)
		}
	}
	if orders < 20 || orders > 100 {
		t.Errorf("%d of 120 have an order", orders)
	}
}
