package tests

import (
	"math"
	"testing"

	"loop.example/g00252/impl"
)

func TestNextPlainly(t *testing.T) {
	l := waitsOf(3, 8, 1, 3, 6, 0, 0, 3, 5, 5, -2, -9)
	wantNext(t, "the first", l, 3, 8)
	wantNext(t, "for one that waits itself", l, 1, 3)
	wantNext(t, "for 0", l, 6, 0)
	wantNext(t, "0 itself", l, 0, 3)
	wantNext(t, "for itself", l, 5, 5)
	wantNext(t, "the last, below 0", l, -2, -9)
	wantNoNext(t, "a For alone", l, 8)
	wantNoNext(t, "a For alone, below 0", l, -9)
	wantNoNext(t, "who stands nowhere", l, 7)
	wantNoNext(t, "the opposite of one that waits", l, 2)
}

func TestNextWhereNobodyWaits(t *testing.T) {
	for _, who := range farNumbers() {
		wantNoNext(t, "no list", nil, who)
		wantNoNext(t, "an empty list", []impl.Wait{}, who)
	}
}

// A wait for 0 is one: the true alone tells it from nobody.
func TestNextForNought(t *testing.T) {
	for _, who := range farNumbers() {
		wantNext(t, "for 0", waitsOf(who, 0), who, 0)
		wantNext(t, "for 0, one behind", waitsOf(who, 0, 77, 5), who, 0)
		wantNext(t, "for 0, one ahead", waitsOf(77, 5, who, 0), who, 0)
		wantNoNext(t, "another one waits for 0", waitsOf(77, 0), who)
	}
}

func TestNextOfAnyNumbers(t *testing.T) {
	for _, a := range farNumbers() {
		for _, b := range farNumbers() {
			wantNext(t, "one", waitsOf(a, b), a, b)
			if a != b {
				wantNoNext(t, "a For alone", waitsOf(a, b), b)
				wantNext(t, "the other one", waitsOf(a, b, b, 5), b, 5)
			}
		}
	}
	ring := ringOf(farNumbers()...)
	for _, w := range ring {
		wantNext(t, "a ring of far numbers", ring, w.Who, w.For)
	}
}

func TestNextOfEachThatWaits(t *testing.T) {
	for _, of := range rightWaits() {
		for _, w := range of.l {
			wantNext(t, of.name, of.l, w.Who, w.For)
		}
		for _, who := range allNumbers(of.l) {
			if want, waits := plainWaitNext(of.l, who); waits {
				wantNext(t, of.name, of.l, who, want)
			} else {
				wantNoNext(t, of.name, of.l, who)
			}
		}
	}
}

// Nobody is told, neither of who stands twice, nor of who stands just once beside it.
func TestNextOfListsThatAreNotOk(t *testing.T) {
	for _, of := range wrongWaits() {
		for _, who := range allNumbers(of.l) {
			wantNoNext(t, of.name, of.l, who)
		}
	}
	wantNoNext(t, "who stands once, ahead of two alike", waitsOf(8, 9, 1, 2, 1, 3), 8)
	wantNoNext(t, "who stands once, between two alike", waitsOf(1, 2, 8, 9, 1, 3), 8)
	wantNoNext(t, "who stands once, behind two alike", waitsOf(1, 2, 1, 3, 8, 9), 8)
	wantNoNext(t, "the first of too many", rowOf(1, mostWaits+1), 1)
	wantNoNext(t, "the last of too many", rowOf(1, mostWaits+1), mostWaits+1)
	wantNext(t, "the first of as many as there may be", rowOf(1, mostWaits), 1, 2)
	wantNext(t, "the last of as many as there may be", rowOf(1, mostWaits), mostWaits, mostWaits+1)
}

func TestNextInAnyOrder(t *testing.T) {
	l := ringOf(upTo(-20, 40)...)
	for _, order := range ordersOf(len(l)) {
		mixed := inOrder(l, order.at)
		for _, w := range l {
			wantNext(t, order.name, mixed, w.Who, w.For)
		}
		wantNoNext(t, order.name, mixed, 41)
		wantNoNext(t, order.name, mixed, math.MinInt)
	}
}
