package tests

import (
	"slices"
	"testing"

	"loop.example/g00252/impl"
)

func TestMaxWaitsIsAsTheDocumentNamesIt(t *testing.T) {
	if impl.MaxWaits != mostWaits {
		t.Errorf("MaxWaits is %d", impl.MaxWaits)
	}
}

func TestWaitsOkOfRightAndWrongLists(t *testing.T) {
	for _, of := range rightWaits() {
		wantWaitsOk(t, of.name, of.l, true)
	}
	for _, of := range wrongWaits() {
		wantWaitsOk(t, of.name, of.l, false)
	}
}

func TestWaitsOkUpToMaxWaits(t *testing.T) {
	for _, n := range append(upTo(0, 70), 127, 128, 129, 256, 1000, 65536, 65600) {
		wantWaitsOk(t, "a row", rowOf(1, n), n <= mostWaits)
		wantWaitsOk(t, "a ring", ringOf(upTo(1, n)...), n <= mostWaits)
		wantWaitsOk(t, "all for one", crowdOf(n, 0), n <= mostWaits)
		wantWaitsOk(t, "each for itself", loners(n), n <= mostWaits)
	}
}

// Two alike are found wherever they stand; two with one For are none.
func TestWaitsOkOfAnyTwoAlike(t *testing.T) {
	for _, n := range []int{2, 3, 4, 9, mostWaits - 1, mostWaits} {
		for i := range n {
			for j := range i {
				l := rowOf(-5, n)
				l[i].Who = l[j].Who
				wantWaitsOk(t, "two with one Who", l, false)

				l = rowOf(-5, n)
				l[i].For = l[j].For
				wantWaitsOk(t, "two with one For", l, true)

				l = rowOf(-5, n)
				l[i].For = l[i].Who
				wantWaitsOk(t, "one that waits for itself", l, true)
			}
		}
	}
}

func TestWaitsOkOfAnyNumbers(t *testing.T) {
	for _, a := range farNumbers() {
		wantWaitsOk(t, "one for itself", waitsOf(a, a), true)
		for _, b := range farNumbers() {
			wantWaitsOk(t, "one", waitsOf(a, b), true)
			wantWaitsOk(t, "two for each other", waitsOf(a, b, b, a), a != b)
			wantWaitsOk(t, "two for one", waitsOf(a, 5, b, 5), a != b)
			wantWaitsOk(t, "first and last", waitsOf(a, 5, 77, 5, 78, a, b, 5), a != b)
		}
	}
}

func TestWaitsOkOfAllShortLists(t *testing.T) {
	lists := [][]impl.Wait{nil}
	for range 4 {
		var longer [][]impl.Wait
		for _, l := range lists {
			wantWaitsOk(t, "a short list", l, plainWaitsOk(l))
			for who := -1; who <= 1; who++ {
				longer = append(longer, withWait(l, who, -1), withWait(l, who, 1))
			}
		}
		lists = longer
	}
}

func TestWaitsOkInAnyOrder(t *testing.T) {
	for _, of := range slices.Concat(rightWaits(), wrongWaits()) {
		if len(of.l) == 0 || len(of.l) > mostWaits+1 {
			continue
		}
		want := plainWaitsOk(of.l)
		for _, order := range ordersOf(len(of.l)) {
			wantWaitsOk(t, of.name+", "+order.name, inOrder(of.l, order.at), want)
		}
	}
}
