package tests

import (
	"slices"
	"testing"

	"loop.example/g00252/impl"
)

func TestFreePlainly(t *testing.T) {
	l := waitsOf(9, 5, 2, 6, 7, 5, 3, 1, 1, 5, 5, 2)
	wantFree(t, "nobody waits for it", l, 4, l, nil)
	wantFree(t, "who waits and is waited for by nobody", l, 9, l, nil)
	wantFree(t, "one", l, 6, waitsOf(9, 5, 7, 5, 3, 1, 1, 5, 5, 2), []int{2})
	wantFree(t, "one that waits itself", l, 1, waitsOf(9, 5, 2, 6, 7, 5, 1, 5, 5, 2), []int{3})
	wantFree(t, "several, and holder waits itself", l, 5, waitsOf(2, 6, 3, 1, 5, 2), []int{9, 7, 1})
	wantFree(t, "the last", l, 2, waitsOf(9, 5, 2, 6, 7, 5, 3, 1, 1, 5), []int{5})
}

func TestFreeWhereNobodyWaits(t *testing.T) {
	for _, holder := range farNumbers() {
		wantFree(t, "no list", nil, holder, nil, nil)
		wantFree(t, "an empty list", []impl.Wait{}, holder, nil, nil)
		wantFree(t, "nobody waits for it", waitsOf(77, 78, holder, 79), holder, waitsOf(77, 78, holder, 79), nil)
	}
}

func TestFreeWhereAllWait(t *testing.T) {
	for _, n := range []int{1, 2, 3, mostWaits - 1, mostWaits} {
		for _, holder := range []int{0, 99, -1, 1 << 40} {
			wantFree(t, "all wait for it", crowdOf(n, holder), holder, nil, upTo(1, n))
			wantFree(t, "all wait for another one", crowdOf(n, holder), holder+1, crowdOf(n, holder), nil)
			wantFree(t, "all wait for another one", crowdOf(n, holder), 1, crowdOf(n, holder), nil)
		}
	}
}

// Holder's own wait is for another one, and stays; a wait of holder for itself does not.
func TestFreeWhereHolderWaits(t *testing.T) {
	for _, holder := range farNumbers() {
		wantFree(t, "holder waits", waitsOf(77, holder, holder, 78, 79, holder), holder, waitsOf(holder, 78), []int{77, 79})
		wantFree(t, "for itself, alone", waitsOf(holder, holder), holder, nil, []int{holder})
		wantFree(t, "for itself, first", waitsOf(holder, holder, 77, 78, 79, holder), holder, waitsOf(77, 78), []int{holder, 79})
		wantFree(t, "for itself, last", waitsOf(79, holder, 77, 78, holder, holder), holder, waitsOf(77, 78), []int{79, holder})
		wantFree(t, "in a ring", waitsOf(77, holder, holder, 77), holder, waitsOf(holder, 77), []int{77})
	}
}

// Both answers are in the order of the list, whichever that is, and not in that of the numbers.
func TestFreeKeepsTheOrder(t *testing.T) {
	var l []impl.Wait
	for who := range mostWaits {
		l = append(l, impl.Wait{Who: who*37%101 - 30, For: who % 3})
	}
	for _, order := range ordersOf(mostWaits) {
		mixed := inOrder(l, order.at)
		for holder := -1; holder <= 3; holder++ {
			left, freed := plainWaitFree(mixed, holder)
			wantFree(t, order.name, mixed, holder, left, freed)
		}
	}
	wantFree(t, "falling", waitsOf(9, 1, 8, 0, 7, 1, 6, 0, 5, 1), 1, waitsOf(8, 0, 6, 0), []int{9, 7, 5})
	wantFree(t, "rising", waitsOf(5, 1, 6, 0, 7, 1, 8, 0, 9, 1), 1, waitsOf(6, 0, 8, 0), []int{5, 7, 9})
}

func TestFreeOfEachPlace(t *testing.T) {
	for _, n := range []int{2, 3, mostWaits} {
		for at := range n {
			l := crowdOf(n, 99)
			l[at].For = -7
			wantFree(t, "one alone", l, -7, slices.Delete(slices.Clone(l), at, at+1), []int{at + 1})
			wantFree(t, "all but one", l, 99, l[at:at+1], slices.DeleteFunc(upTo(1, n), func(who int) bool { return who == at+1 }))
		}
	}
}

func TestFreeOfListsThatAreNotOk(t *testing.T) {
	for _, of := range wrongWaits() {
		for _, holder := range allNumbers(of.l) {
			wantFree(t, of.name, of.l, holder, nil, nil)
		}
	}
	wantFree(t, "two alike, nobody waits for holder", waitsOf(1, 2, 1, 3), 9, nil, nil)
	wantFree(t, "two alike that wait for holder", waitsOf(1, 2, 1, 2), 2, nil, nil)
	wantFree(t, "too many, one waits for holder", rowOf(1, mostWaits+1), 5, nil, nil)
}

func TestFreeIsAsTheDocumentSays(t *testing.T) {
	for _, of := range rightWaits() {
		for _, holder := range allNumbers(of.l) {
			left, freed := plainWaitFree(of.l, holder)
			wantFree(t, of.name, of.l, holder, left, freed)
		}
	}
	for seed := range uint64(300) {
		most := []int{1, 3, 8, 40}[seed%4]
		l := someWaits(most, seed+2000)
		for holder := -1; holder <= most+1; holder++ {
			left, freed := plainWaitFree(l, holder)
			wantFree(t, "some waits", l, holder, left, freed)
		}
	}
}
