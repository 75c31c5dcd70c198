package tests

import (
	"slices"
	"testing"

	"loop.example/g00252/impl"
)

func TestClosesWhereHolderIsWho(t *testing.T) {
	for _, who := range farNumbers() {
		wantCloses(t, "nobody waits", nil, who, who, true)
		wantCloses(t, "nobody waits", []impl.Wait{}, who, who, true)
		wantCloses(t, "others wait", waitsOf(77, 78, 79, 77), who, who, true)
		wantCloses(t, "others wait for it", waitsOf(77, who, 79, who), who, who, true)
		wantCloses(t, "others stand in a ring", ringOf(77, 78, 79), who, who, true)
		wantCloses(t, "MaxWaits others wait", rowOf(100, mostWaits), who, who, true)
	}
}

func TestClosesWhereNobodyWaits(t *testing.T) {
	for _, who := range farNumbers() {
		for _, holder := range farNumbers() {
			wantCloses(t, "nobody waits", nil, who, holder, who == holder)
			wantCloses(t, "another one waits", waitsOf(77, 78), who, holder, who == holder)
		}
	}
}

// A way from holder to who over one, two and many waits, in each order of the list.
func TestClosesAWay(t *testing.T) {
	for _, n := range []int{1, 2, 3, 10, mostWaits - 1, mostWaits} {
		for _, order := range ordersOf(n) {
			l := inOrder(rowOf(-3, n), order.at)
			for holder := -3; holder <= n-3; holder++ {
				wantCloses(t, "to the end of a row, "+order.name, l, n-3, holder, true)
				wantCloses(t, "to elsewhere, "+order.name, l, n-2, holder, false)
				wantCloses(t, "to elsewhere, "+order.name, l, -4, holder, false)
			}
			wantCloses(t, "from who is behind the row, "+order.name, l, n-3, n-2, false)
			wantCloses(t, "from who is ahead of the row, "+order.name, l, n-3, -4, false)
		}
	}
	for _, who := range farNumbers() {
		wantCloses(t, "over one", waitsOf(77, who), who, 77, true)
		wantCloses(t, "over two", waitsOf(77, who, 78, 77), who, 78, true)
		wantCloses(t, "to elsewhere", waitsOf(77, 79, 78, 77), who, 78, false)
	}
}

func TestClosesPlainly(t *testing.T) {
	l := waitsOf(1, 2, 2, 3, 5, 3, 6, 7)
	for _, holder := range []int{1, 2, 3, 5} {
		wantCloses(t, "3 is come to", l, 3, holder, true)
		wantCloses(t, "7 is not", l, 7, holder, false)
		wantCloses(t, "4 is not", l, 4, holder, false)
	}
	wantCloses(t, "7 is come to from 6", l, 7, 6, true)
	wantCloses(t, "3 is not", l, 3, 6, false)
	wantCloses(t, "nobody comes to 4", l, 4, 7, false)
	wantCloses(t, "0 is nobody in particular", waitsOf(1, 0), 0, 1, true)
	wantCloses(t, "0 is not come to", waitsOf(1, 2), 0, 1, false)
}

// The way from holder goes round for ever, and never comes to who.
func TestClosesWhereARingIsThereWithoutWho(t *testing.T) {
	for _, ring := range [][]int{{20}, {20, 21}, {20, 22, 21}, upTo(20, 60)} {
		l := slices.Concat(ringOf(ring...), waitsOf(90, 91, 91, ring[len(ring)-1]))
		for _, holder := range append(slices.Clone(ring), 90, 91) {
			for _, who := range []int{0, 1, 19, 92, -20} {
				wantCloses(t, "a ring without who", l, who, holder, false)
			}
		}
		wantCloses(t, "holder is who", l, 92, 92, true)
	}
	full := ringOf(upTo(1, mostWaits)...)
	for holder := range mostWaits + 2 {
		wantCloses(t, "a ring of MaxWaits", full, 0, holder, holder == 0)
	}
}

func TestClosesNothingWhereWhoWaits(t *testing.T) {
	for _, of := range rightWaits() {
		for _, w := range of.l {
			for _, holder := range []int{w.Who, w.For, w.For + 1, 0, 12345} {
				wantCloses(t, of.name+", who waits already", of.l, w.Who, holder, false)
			}
		}
	}
	for _, who := range farNumbers() {
		wantCloses(t, "holder is who", waitsOf(who, 77), who, who, false)
		wantCloses(t, "who waits for itself", waitsOf(who, who), who, who, false)
		wantCloses(t, "holder waits for who", waitsOf(who, 77, 78, who), who, 78, false)
	}
}

func TestClosesNothingOfListsThatAreNotOk(t *testing.T) {
	for _, of := range wrongWaits() {
		for _, who := range allNumbers(of.l) {
			wantCloses(t, of.name+", holder is who", of.l, who, who, false)
			for _, holder := range []int{1, 2, 3, mostWaits, mostWaits + 1, 99} {
				wantCloses(t, of.name, of.l, who, holder, false)
			}
		}
	}
	wantCloses(t, "two alike beside the way", waitsOf(1, 2, 7, 8, 7, 9), 2, 1, false)
	wantCloses(t, "two alike on the way", waitsOf(1, 2, 1, 2), 2, 1, false)
	wantCloses(t, "a way over too many", rowOf(1, mostWaits+1), mostWaits+2, 1, false)
	wantCloses(t, "a short way among too many", rowOf(1, mostWaits+1), mostWaits+2, mostWaits+1, false)
}

// That all would be more than MaxWaits then is not asked.
func TestClosesWhereMaxWaitsWait(t *testing.T) {
	row := rowOf(1, mostWaits)
	wantCloses(t, "the whole row", row, mostWaits+1, 1, true)
	wantCloses(t, "the last of the row", row, mostWaits+1, mostWaits, true)
	wantCloses(t, "holder is who", row, mostWaits+1, mostWaits+1, true)
	wantCloses(t, "elsewhere", row, 0, 1, false)
	crowd := crowdOf(mostWaits, 99)
	for holder := range mostWaits + 2 {
		wantCloses(t, "all for one", crowd, 99, holder, holder >= 1 && holder <= mostWaits)
	}
}

func TestClosesIsAsTheDocumentSays(t *testing.T) {
	for _, of := range rightWaits() {
		for _, who := range allNumbers(of.l) {
			for _, holder := range []int{who, 0, 1, 2, 5, 9, mostWaits, 99, -1} {
				wantCloses(t, of.name, of.l, who, holder, plainWaitCloses(of.l, who, holder))
			}
		}
	}
	closed, open := 0, 0
	for seed := range uint64(200) {
		most := []int{2, 5, 9, 30}[seed%4]
		l := someWaits(most, seed+1000)
		for who := -1; who <= most+1; who++ {
			for holder := -1; holder <= most+1; holder++ {
				want := plainWaitCloses(l, who, holder)
				wantCloses(t, "some waits", l, who, holder, want)
				closed += oneIf(want && who != holder)
				open += oneIf(!want)
			}
		}
	}
	if closed < 500 || open < 500 {
		t.Errorf("closed: %d, open: %d", closed, open)
	}
}
