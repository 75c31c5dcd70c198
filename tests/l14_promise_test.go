package tests

import (
	"fmt"
	"slices"
	"testing"

	"loop.example/g00252/impl"
)

// deedCount is how often what came over all lists.
type deedCount struct {
	orders int
	turned int
	rings  int
	long   int
	pairs  int
}

// wantPromise14 asks for an order that keeps all pairs and in which each reads what it read, or for a ring of pairs.
func wantPromise14(t *testing.T, name string, l []impl.Deed, count *deedCount) {
	t.Helper()
	pairs := impl.GraphEdges(l)
	order, ok := impl.GraphOrder(l)
	ring := impl.GraphRing(l)
	count.pairs += len(pairs)
	if ok != (len(ring) == 0) {
		t.Errorf("%s: the order %v, %t and the ring %v", name, order, ok, ring)
	}
	if !ok {
		count.rings++
		count.long += oneIf(len(ring) > 2)
		if len(order) != 0 {
			t.Errorf("%s: the order %v beside false", name, order)
		}
		wantIsRound(t, name, pairs, ring)
		return
	}
	count.orders++
	count.turned += oneIf(!slices.IsSorted(order))
	if !slices.Equal(slices.Sorted(slices.Values(order)), upTo(0, len(l)-1)) {
		t.Fatalf("%s: %v has not each place once", name, order)
	}
	for _, p := range pairs {
		if slices.Index(order, p[0]) > slices.Index(order, p[1]) {
			t.Errorf("%s: the order %v does not keep the pair %v", name, order, p)
		}
	}
	wantSerial(t, name, l, true, order...)
	if !plainGraphSerial(l, order) {
		t.Errorf("%s: one behind the other in the order %v one does not read what it read", name, order)
	}
}

func TestPromise14(t *testing.T) {
	var count deedCount
	for seed := range uint64(3000) {
		l := someDeeds(1+int(seed%12), 1+int(seed%6), 1+int(seed%4), seed+900)
		wantPromise14(t, fmt.Sprint("seed ", seed), l, &count)
	}
	if count.orders < 500 || count.turned < 100 || count.rings < 500 || count.long < 50 || count.pairs < 10000 {
		t.Errorf("not much was asked: %+v", count)
	}
}

func TestPromise14OfRightDeeds(t *testing.T) {
	var count deedCount
	for _, of := range rightDeeds() {
		wantPromise14(t, of.name, of.l, &count)
	}
	if count.orders < 10 || count.rings < 3 {
		t.Errorf("not much was asked: %+v", count)
	}
}

// narrow are deeds over many keys, so that many of them have an order.
func narrow(n int, most int, keys int, seed uint64) []impl.Deed {
	l := someMoments(n, most, seed)
	for i := range l {
		for _, x := range someBits(2, seed*977+uint64(i)) {
			from := int(x >> 20 % uint64(keys))
			l[i] = readingSpans(l[i], spanOf(from, from+int(x>>50%3)))
			if x>>40%3 > 0 {
				l[i] = writing(l[i], int(x>>44%uint64(keys)))
			}
		}
	}
	return l
}

func TestPromise14OfMaxDeeds(t *testing.T) {
	var count deedCount
	for seed := range uint64(60) {
		l := narrow(mostDeeds, 2+int(seed%3), 40+60*int(seed%7), seed+40)
		if seed%2 == 0 {
			slices.Reverse(l)
		}
		wantPromise14(t, fmt.Sprint("seed ", seed), l, &count)
	}
	if count.orders < 10 || count.rings < 10 || count.turned < 10 {
		t.Errorf("not much was asked: %+v", count)
	}
}

// What is told is what the document says, of deeds as they come and not of graphs alone.
func TestOrdersAndRingsAreAsTheDocumentSays(t *testing.T) {
	for seed := range uint64(1000) {
		n := 1 + int(seed%9)
		l := someDeeds(n, 1+int(seed%5), 1+int(seed%3), seed+7000)
		name := fmt.Sprint("seed ", seed)
		pairs := plainGraphEdges(l)
		if want, ok := plainGraphOrder(n, pairs); ok {
			wantTurns(t, name, l, want...)
		} else {
			wantNoTurns(t, name, l)
		}
		wantRound(t, name, l, plainGraphRing(n, pairs)...)
	}
}

// Deeds that were done one behind the other have an order: that of their ends, turned only where nothing tells them apart.
func TestDeedsBehindEachOtherHaveAnOrder(t *testing.T) {
	for seed := range uint64(300) {
		n := 1 + int(seed%20)
		l := someDeeds(n, 1, 1+int(seed%4), seed+1234)
		order, ok := impl.GraphOrder(l)
		if !ok || len(impl.GraphRing(l)) != 0 {
			t.Fatalf("seed %d: no order of deeds one behind the other", seed)
		}
		byEnd := upTo(0, n-1)
		slices.SortFunc(byEnd, func(a int, b int) int { return l[a].Ended - l[b].Ended })
		wantSerial(t, fmt.Sprint("seed ", seed, ", by their ends"), l, true, byEnd...)
		wantSerial(t, fmt.Sprint("seed ", seed), l, true, order...)
	}
}

// Whatever order the maps are ranged over, and whatever was asked ahead of it, the answers are the same.
func TestAnswersOfDeedsAreTheSameEachTime(t *testing.T) {
	lists := rightDeeds()
	for seed := range uint64(20) {
		lists = append(lists, namedDeeds{fmt.Sprint("seed ", seed), someDeeds(8+int(seed%10), 4, 3, seed+60)})
		lists = append(lists, namedDeeds{fmt.Sprint("a graph, seed ", seed), graphOf(40, someGraph(40, 5+10*int(seed), seed)...)})
	}
	for _, of := range lists {
		pairs, ring := impl.GraphEdges(of.l), impl.GraphRing(of.l)
		order, ok := impl.GraphOrder(of.l)
		isSerial := impl.GraphSerial(of.l, order)
		for range 30 {
			again, okAgain := impl.GraphOrder(of.l)
			if !slices.Equal(pairs, impl.GraphEdges(of.l)) || !slices.Equal(ring, impl.GraphRing(of.l)) || !slices.Equal(order, again) || ok != okAgain || isSerial != impl.GraphSerial(of.l, order) {
				t.Fatalf("%s: answers of one list differ", of.name)
			}
		}
	}
}

// As many acts as there may be: of one key each, of all keys, and of a key of its own each.
func TestDeedsAtAllLimits(t *testing.T) {
	var count deedCount
	for _, of := range []struct {
		name  string
		keyOf func(place int, i int) int
		l     []impl.Deed
	}{
		{"one key, behind each other", func(place int, i int) int { return 7 }, behindEachOther(mostDeeds)},
		{"the same keys, behind each other", func(place int, i int) int { return i }, behindEachOther(mostDeeds)},
		{"keys of their own, behind each other", func(place int, i int) int { return place*mostActs + i }, behindEachOther(mostDeeds)},
		{"keys of their own, beside each other", func(place int, i int) int { return place*mostActs + i }, besideEachOther(mostDeeds)},
	} {
		l := of.l
		for place := range l {
			for i := range mostActs {
				l[place].Writes = append(l[place].Writes, intItem(of.keyOf(place, i)))
				l[place].Reads = append(l[place].Reads, spanOf(i, mostDeeds*mostActs-i))
			}
		}
		wantDeedsOk(t, of.name, l, true)
		var want [][2]int
		for a := range mostDeeds {
			for b := range mostDeeds {
				if a < b || a > b && l[a].Begun < l[b].Ended && l[b].Begun < l[a].Ended {
					want = append(want, [2]int{a, b})
				}
			}
		}
		wantPairs(t, of.name, l, want...)
		order, ok := impl.GraphOrder(l)
		ring := impl.GraphRing(l)
		count.orders += oneIf(ok)
		count.rings += oneIf(len(ring) > 0)
		if ok && !slices.Equal(order, upTo(0, mostDeeds-1)) || len(ring) > 0 && !slices.Equal(ring, []int{0, 1}) {
			t.Errorf("%s: the order %v, the ring %v", of.name, order, ring)
		}
		wantSerial(t, of.name, l, ok, upTo(0, mostDeeds-1)...)
	}
	if count.orders != 3 || count.rings != 1 {
		t.Errorf("%+v", count)
	}
}
