package tests

import (
	"math"
	"testing"

	"loop.example/g00252/impl"
)

func TestItemConstants(t *testing.T) {
	got := [5]int{impl.ItNone, impl.ItInt, impl.ItFloat, impl.ItText, impl.MaxText}
	if got != [5]int{0, 1, 2, 3, 40} {
		t.Errorf("the kinds and the limit are %v", got)
	}
}

func TestItemsOfAllKindsAreOk(t *testing.T) {
	items := append(risingItems(), floatItem(minusNought()), impl.Item{T: []byte{}}, impl.Item{Kind: impl.ItInt, T: []byte{}}, impl.Item{Kind: impl.ItText, T: []byte{}})
	for _, bits := range strangeNaNs() {
		items = append(items, floatItem(math.Float64frombits(bits)))
	}
	for n := range impl.MaxText + 1 {
		items = append(items, impl.Item{Kind: impl.ItText, T: make([]byte, n)}, impl.Item{Kind: impl.ItText, T: someBytes(n, 31)})
	}
	for _, a := range items {
		if !impl.ItemOk(a) {
			t.Errorf("ItemOk(%v) = false", a)
		}
	}
}

func TestItemsThatAreNotOk(t *testing.T) {
	for _, a := range wrongItems() {
		if impl.ItemOk(a) {
			t.Errorf("ItemOk(%v) = true", a)
		}
	}
}

func TestBehindATextIsNotLookedAt(t *testing.T) {
	long := someBytes(3*impl.MaxText, 32)
	if !impl.ItemOk(impl.Item{Kind: impl.ItText, T: long[:impl.MaxText]}) || !impl.ItemOk(impl.Item{Kind: impl.ItInt, T: long[:0]}) {
		t.Error("the room behind a text counts as text")
	}
	a, b := impl.Item{Kind: impl.ItText, T: []byte("abc")[:2]}, impl.Item{Kind: impl.ItText, T: []byte("abd")[:2]}
	if impl.ItemCompare(a, b) != 0 || string(impl.KeyBytes(a)) != "\x03ab" || string(impl.ValueBytes(a)) != "\x03ab" {
		t.Error("the room behind a text is read")
	}
}

func TestCleanItemsStay(t *testing.T) {
	for _, a := range risingItems() {
		if got := impl.ItemClean(a); !sameItem(got, a) {
			t.Errorf("ItemClean(%v) = %v", a, got)
		}
	}
	for _, bits := range strangeNaNs() {
		if got := impl.ItemClean(floatItem(math.Float64frombits(bits))); !sameItem(got, floatItem(math.NaN())) {
			t.Errorf("ItemClean of the NaN %x = %v", bits, got)
		}
	}
}

func TestCleanMakesOneNought(t *testing.T) {
	got := impl.ItemClean(floatItem(minusNought()))
	if !sameItem(got, floatItem(0)) || math.Signbit(got.F) {
		t.Errorf("ItemClean of -0 = %v", got)
	}
	if !impl.KeyOk(got) || impl.KeyOk(floatItem(minusNought())) {
		t.Error("-0 is no key, but is one when it is clean")
	}
	if got = impl.ItemClean(floatItem(-math.SmallestNonzeroFloat64)); !sameItem(got, floatItem(-math.SmallestNonzeroFloat64)) {
		t.Errorf("ItemClean of the greatest float below 0 = %v", got)
	}
}

func TestCleanOfWrongItemsIsZero(t *testing.T) {
	for _, a := range wrongItems() {
		if got := impl.ItemClean(a); !sameItem(got, impl.Item{}) {
			t.Errorf("ItemClean(%v) = %v, want the zero value", a, got)
		}
	}
}

func TestKeyOk(t *testing.T) {
	for _, a := range risingKeys() {
		if !impl.KeyOk(a) {
			t.Errorf("KeyOk(%v) = false", a)
		}
	}
	for _, bits := range strangeNaNs() {
		if !impl.KeyOk(floatItem(math.Float64frombits(bits))) {
			t.Errorf("the NaN %x is no key", bits)
		}
	}
	for _, a := range append(wrongItems(), impl.Item{}, impl.Item{T: []byte{}}, floatItem(minusNought())) {
		if impl.KeyOk(a) {
			t.Errorf("KeyOk(%v) = true", a)
		}
	}
	for n := range impl.MaxText + 1 {
		if !impl.KeyOk(impl.Item{Kind: impl.ItText, T: make([]byte, n)}) {
			t.Errorf("a text of %d bytes is no key", n)
		}
	}
}

func TestCleanIsNewMemory(t *testing.T) {
	for _, n := range []int{0, 1, 7, impl.MaxText, impl.MaxText + 1} {
		g := guard(someBytes(n, 33))
		a := impl.Item{Kind: impl.ItText, T: g.b}
		got := impl.ItemClean(a)
		g.check(t, "ItemClean")
		spoil(g.b)
		if want := someBytes(n, 33); n <= impl.MaxText && string(got.T) != string(want) {
			t.Errorf("ItemClean of %d bytes shares memory with its argument", n)
		}
		spoil(g.b)
		spoil(got.T)
		g.check(t, "ItemClean, its answer spoilt")
	}
}

func TestItemsLeaveTheirArguments(t *testing.T) {
	for _, kind := range []int{-1, impl.ItNone, impl.ItInt, impl.ItFloat, impl.ItText, 4} {
		for _, n := range []int{0, 1, impl.MaxText, impl.MaxText + 1} {
			g, h := guard(someBytes(n, 34)), guard(someBytes(n, 35))
			a, b := impl.Item{Kind: kind, T: g.b}, impl.Item{Kind: kind, T: h.b}
			wantNoPanics(t, a, b, g.b)
			wantNoPanics(t, b, a, h.b)
			impl.InSpan(a, b, b)
			g.check(t, "a function of items")
			h.check(t, "a function of items")
		}
	}
}

func TestItemsNeverPanic(t *testing.T) {
	items := append(append(risingItems(), wrongItems()...), floatItem(minusNought()))
	lists := append(strangeBytes(), nil, make([]byte, 1<<20))
	for i, a := range items {
		wantNoPanics(t, a, items[(i*7+3)%len(items)], lists[i%len(lists)])
		wantNoPanics(t, items[(i*5+1)%len(items)], a, lists[i%len(lists)])
	}
	for _, l := range lists {
		wantNoPanics(t, impl.Item{Kind: impl.ItText, T: l}, impl.Item{Kind: impl.ItText, T: l}, l)
	}
}
