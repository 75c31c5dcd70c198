package tests

import (
	"slices"
	"testing"

	"loop.example/g00252/impl"
)

func TestRingWhereNobodyWaits(t *testing.T) {
	for _, who := range farNumbers() {
		wantRing(t, "no list", nil, who)
		wantRing(t, "an empty list", []impl.Wait{}, who)
		wantRing(t, "who waits for nobody", waitsOf(77, 78), who)
		wantRing(t, "who is waited for alone", waitsOf(77, who), who)
	}
}

func TestRingOfAWayThatEnds(t *testing.T) {
	for _, n := range []int{1, 2, 3, 10, mostWaits - 1, mostWaits} {
		for _, order := range ordersOf(n) {
			l := inOrder(rowOf(-3, n), order.at)
			for who := -4; who <= n-2; who++ {
				wantRing(t, "a row, "+order.name, l, who)
			}
		}
	}
	for _, who := range upTo(1, mostWaits) {
		wantRing(t, "all for one that waits for nobody", crowdOf(mostWaits, 99), who)
	}
	wantRing(t, "a way to 0", waitsOf(1, 2, 2, 0), 1)
}

func TestRingOfOne(t *testing.T) {
	for _, who := range farNumbers() {
		wantRing(t, "alone", waitsOf(who, who), who, who)
		wantRing(t, "another one behind", waitsOf(who, who, 77, who), who, who)
		wantRing(t, "another one ahead", waitsOf(77, who, who, who), who, who)
		wantRing(t, "its way leads into the ring of one", waitsOf(77, who, who, who), 77)
	}
	for _, who := range upTo(1, mostWaits) {
		wantRing(t, "MaxWaits of them", loners(mostWaits), who, who)
	}
}

// From each one's view, in each order of the list: the answer begins with who and goes as the waits do.
func TestRingFromEachView(t *testing.T) {
	rings := [][]int{
		{4, 2}, {2, 4}, {0, 1}, {3, 1, 2}, {1, 2, 3}, {3, 2, 1}, {0, -1, 1}, {9, 4, 7, 1}, farNumbers(),
		upTo(1, mostWaits-1), upTo(1, mostWaits), upTo(-40, 23),
	}
	for _, ring := range rings {
		for _, order := range ordersOf(len(ring)) {
			l := inOrder(ringOf(ring...), order.at)
			for at, who := range ring {
				wantRing(t, "a ring, "+order.name, l, who, fromOn(ring, at)...)
			}
			wantRing(t, "who stands beside it", l, 12345)
		}
	}
}

func TestRingOfTwoAndThreePlainly(t *testing.T) {
	two := waitsOf(5, 8, 8, 5)
	wantRing(t, "two", two, 5, 5, 8)
	wantRing(t, "two", two, 8, 8, 5)
	three := waitsOf(1, 2, 3, 1, 2, 3)
	wantRing(t, "three", three, 1, 1, 2, 3)
	wantRing(t, "three", three, 2, 2, 3, 1)
	wantRing(t, "three", three, 3, 3, 1, 2)
}

// Who comes into a ring and not back to itself does not stand in it.
func TestRingOfAWayThatLeadsIntoOne(t *testing.T) {
	for _, ring := range [][]int{{20}, {20, 21}, {20, 22, 21}, upTo(20, 40), upTo(20, 62)} {
		for _, n := range []int{1, 2, 5, mostWaits - len(ring)} {
			for into := range min(len(ring), 4) {
				l := slices.Concat(rowOf(100, n), ringOf(ring...))
				l[n-1].For = ring[into]
				slices.Reverse(l)
				for _, who := range upTo(100, 99+n) {
					wantRing(t, "on its way", l, who)
				}
				for at, who := range ring {
					wantRing(t, "who stands in it", l, who, fromOn(ring, at)...)
				}
			}
		}
	}
}

func TestRingsBesideEachOther(t *testing.T) {
	one, other := []int{7, 3, 5}, []int{2, 8}
	for _, l := range [][]impl.Wait{
		slices.Concat(ringOf(one...), ringOf(other...)),
		slices.Concat(ringOf(other...), ringOf(one...)),
		waitsOf(2, 8, 7, 3, 8, 2, 3, 5, 5, 7),
		slices.Concat(ringOf(one...), ringOf(other...), waitsOf(6, 7, 4, 2, 9, 9, 11, 12)),
	} {
		for at, who := range one {
			wantRing(t, "the ring of three", l, who, fromOn(one, at)...)
		}
		for at, who := range other {
			wantRing(t, "the ring of two", l, who, fromOn(other, at)...)
		}
		for _, who := range []int{0, 1, 4, 6, 11, 12} {
			wantRing(t, "who stands in none", l, who)
		}
	}
	half := mostWaits / 2
	l := slices.Concat(ringOf(upTo(1, half)...), ringOf(upTo(half+1, mostWaits)...))
	wantRing(t, "the first half", l, half, fromOn(upTo(1, half), half-1)...)
	wantRing(t, "the second half", l, half+1, upTo(half+1, mostWaits)...)
}

func TestRingOfListsThatAreNotOk(t *testing.T) {
	for _, of := range wrongWaits() {
		for _, who := range allNumbers(of.l) {
			wantRing(t, of.name, of.l, who)
		}
	}
	for _, who := range []int{1, 2, 3, 8} {
		wantRing(t, "a ring ahead of two alike", waitsOf(1, 2, 2, 1, 8, 3, 8, 3), who)
		wantRing(t, "a ring behind two alike", waitsOf(8, 3, 8, 3, 1, 2, 2, 1), who)
		wantRing(t, "a ring in which one stands twice", waitsOf(1, 2, 2, 1, 1, 2), who)
	}
	tooMany := slices.Concat(ringOf(1, 2), rowOf(100, mostWaits-1))
	wantRing(t, "a ring among too many", tooMany, 1)
	wantRing(t, "a ring among just as many as there may be", tooMany[:mostWaits], 1, 1, 2)
}

func TestRingIsAsTheDocumentSays(t *testing.T) {
	for _, of := range rightWaits() {
		for _, who := range allNumbers(of.l) {
			wantRing(t, of.name, of.l, who, plainWaitRing(of.l, who)...)
		}
	}
	told := 0
	for seed := range uint64(400) {
		most := []int{2, 5, 9, 20, mostWaits - 1}[seed%5]
		l := someWaits(most, seed)
		for who := -1; who <= most+1; who++ {
			want := plainWaitRing(l, who)
			wantRing(t, "some waits", l, who, want...)
			told += oneIf(len(want) > 2)
		}
	}
	if told < 100 {
		t.Errorf("a ring of three or more was told %d times", told)
	}
}
