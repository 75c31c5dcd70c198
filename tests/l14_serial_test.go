package tests

import (
	"fmt"
	"math"
	"slices"
	"testing"

	"loop.example/g00252/impl"
)

func TestSerialOfNoDeeds(t *testing.T) {
	wantSerial(t, "no deeds and no order", nil, true)
	if !impl.GraphSerial([]impl.Deed{}, []int{}) || !impl.GraphSerial(nil, []int{}) || !impl.GraphSerial([]impl.Deed{}, nil) {
		t.Error("an empty list is not the same as none")
	}
	for _, place := range []int{math.MinInt, -1, 0, 1, math.MaxInt} {
		wantSerial(t, "no deeds and an order", nil, false, place)
	}
}

func TestSerialByThePlacesOfTheOrder(t *testing.T) {
	for _, n := range []int{1, 2, 3, 10, mostDeeds} {
		l := besideEachOther(n)
		wantSerial(t, "each once", l, true, upTo(0, n-1)...)
		wantSerial(t, "none", l, false)
		wantSerial(t, "from 1 on", l, false, upTo(1, n)...)
		wantSerial(t, "too many", l, false, upTo(0, n)...)
		for at := range n {
			few := slices.Delete(upTo(0, n-1), at, at+1)
			wantSerial(t, "one lacks", l, false, few...)
			wantSerial(t, "one more, twice", l, false, append(upTo(0, n-1), at)...)
			wantSerial(t, "one more ahead", l, false, append([]int{at}, upTo(0, n-1)...)...)
			if n > 1 {
				twice := upTo(0, n-1)
				twice[at] = (at + 1) % n
				wantSerial(t, "one twice, in another one's place", l, false, twice...)
			}
			for _, place := range []int{math.MinInt, -n, -1, n, n + 1, at + 1<<32, at + 256, at - 256, math.MaxInt} {
				order := upTo(0, n-1)
				order[at] = place
				wantSerial(t, "no place of the list", l, false, order...)
			}
		}
	}
	wantSerial(t, "very many", besideEachOther(3), false, sameOf(100000, 1)...)
}

// Where nothing is read that was written, every order is right.
func TestSerialOfAnyOrder(t *testing.T) {
	plain := besideEachOther(4)
	blind := behindEachOther(4)
	readers := behindEachOther(4)
	own := besideEachOther(4)
	for i := range 4 {
		blind[i] = writing(blind[i], 5, i)
		readers[i] = readingSpans(readers[i], spanOf(0, 9))
		own[i] = writing(reading(own[i], i), i)
	}
	for _, order := range allTurns(4) {
		wantSerial(t, "no acts", plain, true, order...)
		wantSerial(t, "all write one key, and nobody reads it", blind, true, order...)
		wantSerial(t, "all read, and nobody writes", readers, true, order...)
		wantSerial(t, "each reads what it writes itself", own, true, order...)
	}
	if order, _ := impl.GraphOrder(blind); !slices.Equal(order, upTo(0, 3)) {
		t.Errorf("GraphOrder is %v", order)
	}
	for _, n := range []int{30, mostDeeds} {
		for _, order := range ordersOf(n) {
			wantSerial(t, "many, "+order.name, besideEachOther(n), true, order.at...)
		}
	}
}

func TestSerialOfAReaderBehindAWriter(t *testing.T) {
	l := []impl.Deed{writing(deedOf(1, 2), 5), reading(deedOf(3, 4), 5)}
	wantSerial(t, "behind it", l, true, 0, 1)
	wantSerial(t, "ahead of it: what nobody wrote", l, false, 1, 0)
	three := []impl.Deed{writing(deedOf(1, 2), 5), writing(deedOf(3, 4), 5), reading(deedOf(5, 6), 5)}
	for _, order := range allTurns(3) {
		at := slices.Index(order, 2)
		wantSerial(t, "behind two: the last one", three, at > 0 && order[at-1] == 1, order...)
	}
	// The one that ended last is behind the reading, not the one that began last.
	within := []impl.Deed{writing(deedOf(1, 4), 5), writing(deedOf(2, 3), 5), reading(deedOf(5, 6), 5)}
	for _, order := range allTurns(3) {
		at := slices.Index(order, 2)
		wantSerial(t, "behind two: who ended last", within, at > 0 && order[at-1] == 0, order...)
	}
}

func TestSerialOfAReaderAheadOfAWriter(t *testing.T) {
	for _, end := range []int{3, 5, 9} {
		l := []impl.Deed{writing(deedOf(1, end), 5), reading(deedOf(2, 7), 5)}
		wantSerial(t, "the writer ended behind its Begun", l, true, 1, 0)
		wantSerial(t, "the writer ended behind its Begun", l, false, 0, 1)
	}
	l := []impl.Deed{writing(deedOf(1, 2), 5), writing(deedOf(3, 6), 5), reading(deedOf(4, 9), 5)}
	for _, order := range allTurns(3) {
		at := slices.Index(order, 2)
		wantSerial(t, "one ended ahead of its Begun, one behind", l, at > 0 && order[at-1] == 0, order...)
	}
}

func TestSerialOfOneThatWritesWhatItReads(t *testing.T) {
	two := []impl.Deed{writing(reading(deedOf(1, 2), 5), 5), writing(reading(deedOf(3, 4), 5), 5)}
	wantSerial(t, "one behind the other", two, true, 0, 1)
	wantSerial(t, "one behind the other, turned round", two, false, 1, 0)
	lost := []impl.Deed{writing(reading(deedOf(1, 3), 5), 5), writing(reading(deedOf(2, 4), 5), 5)}
	wantSerial(t, "beside each other", lost, false, 0, 1)
	wantSerial(t, "beside each other", lost, false, 1, 0)
	wantSerial(t, "alone", lost[:1], true, 0)
	blind := []impl.Deed{writing(reading(deedOf(1, 3), 5), 5), writing(deedOf(2, 4), 5)}
	wantSerial(t, "one of both reads", blind, true, 0, 1)
	wantSerial(t, "one of both reads", blind, false, 1, 0)
	// Each takes up from the one ahead of it.
	n := 30
	row := behindEachOther(n)
	for i := range row {
		row[i] = writing(reading(row[i], 5), 5)
	}
	for _, order := range ordersOf(n) {
		wantSerial(t, "a row, "+order.name, row, slices.IsSorted(order.at), order.at...)
	}
}

// Each of the keys alone makes the order wrong, wherever it stands among the acts.
func TestSerialIsWrongByOneKeyAlone(t *testing.T) {
	for _, n := range []int{1, 2, 3, 50, mostActs} {
		for _, at := range []int{0, 1, n / 2, n - 2, n - 1} {
			if at < 0 || at >= n {
				continue
			}
			// The last writer of all keys but one is place 1, of that one it is place 0.
			l := []impl.Deed{
				writing(deedOf(1, 2), upTo(0, n-1)...),
				writing(deedOf(3, 4), slices.Delete(upTo(0, n-1), at, at+1)...),
				reading(deedOf(5, 6), upTo(0, n-1)...),
			}
			wantSerial(t, "as it was", l, true, 0, 1, 2)
			wantSerial(t, "turned round", l, n == 1, 1, 0, 2)
			l[1] = writing(l[1], at)
			wantSerial(t, "the key too", l, true, 0, 1, 2)
			l[1].Ended, l[1].Begun = 10, 9
			wantSerial(t, "the second one came later", l, true, 0, 2, 1)
			wantSerial(t, "the second one came later", l, false, 0, 1, 2)
			l[1].Writes = intItems(at)
			wantSerial(t, "by that key alone", l, false, 0, 1, 2)
			l[1].Writes = intItems(n)
			wantSerial(t, "by a key that nobody reads", l, true, 0, 1, 2)
			l[2].Reads = []impl.Span{spanOf(0, n)}
			wantSerial(t, "by the end of a span", l, false, 0, 1, 2)
			l[2].Reads = []impl.Span{spanOf(0, n-1)}
			wantSerial(t, "just behind the span", l, true, 0, 1, 2)
		}
	}
}

func TestSerialOfWrongDeeds(t *testing.T) {
	for _, of := range wrongDeeds() {
		wantSerial(t, of.name, of.l, false, upTo(0, len(of.l)-1)...)
		wantSerial(t, of.name+", no order", of.l, false)
		if len(of.l) <= 4 {
			for _, order := range allTurns(len(of.l)) {
				wantSerial(t, of.name, of.l, false, order...)
			}
		}
	}
}

// A ring of pairs bars the order that keeps them; where two only write one key, another order may still be right.
func TestSerialBesideARing(t *testing.T) {
	skew := []impl.Deed{writing(reading(deedOf(1, 3), 1), 2), writing(reading(deedOf(2, 4), 2), 1)}
	wantSerial(t, "each reads what the other one writes", skew, false, 0, 1)
	wantSerial(t, "each reads what the other one writes", skew, false, 1, 0)
	l := []impl.Deed{writing(reading(deedOf(2, 6), 1), 5), writing(deedOf(1, 4), 1, 5)}
	wantPairs(t, "two that write, one of which reads", l, pairsOf(0, 1, 1, 0)...)
	wantNoTurns(t, "two that write, one of which reads", l)
	wantSerial(t, "nobody reads the key that both write", l, true, 0, 1)
	wantSerial(t, "nobody reads the key that both write", l, false, 1, 0)
}

func TestSerialIsAsTheDocumentSays(t *testing.T) {
	right, wrong := 0, 0
	for seed := range uint64(400) {
		n := 1 + int(seed%5)
		l := someDeeds(n, 1+int(seed%4), 1+int(seed%3), seed+300)
		for _, order := range allTurns(n) {
			want := plainGraphSerial(l, order)
			right += oneIf(want)
			wrong += oneIf(!want)
			wantSerial(t, fmt.Sprint("seed ", seed), l, want, order...)
		}
	}
	if right < 1000 || wrong < 1000 {
		t.Errorf("not much was asked: %d right, %d wrong", right, wrong)
	}
}

// All lists of places, of any length up to one more than there are deeds.
func TestSerialOfAllListsOfPlaces(t *testing.T) {
	for n := range 4 {
		l := besideEachOther(n)
		lists := [][]int{nil}
		for range n + 2 {
			var longer [][]int
			for _, order := range lists {
				isOrder := slices.Equal(slices.Sorted(slices.Values(order)), upTo(0, n-1))
				wantSerial(t, "places", l, isOrder, order...)
				for place := -1; place <= n; place++ {
					longer = append(longer, append(slices.Clip(order), place))
				}
			}
			lists = longer
		}
	}
}
