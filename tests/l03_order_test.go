package tests

import (
	"bytes"
	"cmp"
	"math"
	"testing"

	"loop.example/g00252/impl"
)

func wantItemOrder(t *testing.T, a impl.Item, b impl.Item, want int) {
	t.Helper()
	if got := impl.ItemCompare(a, b); got != want {
		t.Errorf("ItemCompare(%v, %v) = %d, want %d", a, b, got, want)
	}
	back := -want
	if want == -2 {
		back = -2
	}
	if got := impl.ItemCompare(b, a); got != back {
		t.Errorf("ItemCompare(%v, %v) = %d, want %d", b, a, got, back)
	}
}

func TestItemsRise(t *testing.T) {
	items := risingItems()
	for i, a := range items {
		for j, b := range items {
			wantItemOrder(t, a, b, cmp.Compare(i, j))
		}
	}
}

func TestNoughtsAndNaNsAreOneInOrder(t *testing.T) {
	low, nan := floatItem(minusNought()), floatItem(math.NaN())
	for _, b := range risingItems() {
		wantItemOrder(t, low, b, impl.ItemCompare(floatItem(0), b))
	}
	wantItemOrder(t, low, floatItem(0), 0)
	wantItemOrder(t, low, low, 0)
	wantItemOrder(t, low, floatItem(math.SmallestNonzeroFloat64), -1)
	wantItemOrder(t, low, floatItem(-math.SmallestNonzeroFloat64), 1)
	for _, bits := range strangeNaNs() {
		a := floatItem(math.Float64frombits(bits))
		wantItemOrder(t, a, nan, 0)
		wantItemOrder(t, a, a, 0)
		wantItemOrder(t, a, floatItem(math.Inf(1)), 1)
		wantItemOrder(t, a, floatItem(math.Inf(-1)), 1)
		wantItemOrder(t, a, textItem(""), -1)
	}
}

func TestKindsGoAheadOfWhatTheyHold(t *testing.T) {
	wantItemOrder(t, intItem(math.MaxInt), floatItem(math.Inf(-1)), -1)
	wantItemOrder(t, floatItem(math.NaN()), textItem(""), -1)
	wantItemOrder(t, impl.Item{}, intItem(math.MinInt), -1)
	wantItemOrder(t, impl.Item{}, impl.Item{T: []byte{}}, 0)
	wantItemOrder(t, intItem(9), floatItem(9), -1)
	wantItemOrder(t, intItem(-9), textItem("-9"), -1)
}

func TestManyTextsCompareAsTheirBytes(t *testing.T) {
	for seed := range 2000 {
		a := someBytes(seed%(impl.MaxText+1), uint64(seed))
		b := someBytes(seed/7%(impl.MaxText+1), uint64(seed+seed%3))
		copy(b, a[:min(len(a), seed%5)])
		wantItemOrder(t, impl.Item{Kind: impl.ItText, T: a}, impl.Item{Kind: impl.ItText, T: b}, bytes.Compare(a, b))
	}
}

func TestManyNumbersCompare(t *testing.T) {
	l := someBits(2000, 36)
	for i := range len(l) - 1 {
		wantItemOrder(t, intItem(int(l[i])), intItem(int(l[i+1])), cmp.Compare(int64(l[i]), int64(l[i+1])))
	}
}

func TestWrongItemsHaveNoOrder(t *testing.T) {
	some := append(risingItems(), floatItem(minusNought()))
	for i, a := range wrongItems() {
		wantItemOrder(t, a, a, -2)
		wantItemOrder(t, a, wrongItems()[0], -2)
		wantItemOrder(t, a, some[i%len(some)], -2)
		for _, b := range []impl.Item{{}, intItem(0), floatItem(0), textItem(""), textItem("a")} {
			wantItemOrder(t, a, b, -2)
		}
	}
}

func wantInSpan(t *testing.T, from impl.Item, to impl.Item, a impl.Item, want bool) {
	t.Helper()
	if got := impl.InSpan(from, to, a); got != want {
		t.Errorf("InSpan(%v, %v, %v) = %t", from, to, a, got)
	}
}

func TestSpansOverRisingKeys(t *testing.T) {
	keys := risingKeys()
	for i := 0; i < len(keys); i += 3 {
		for j := 0; j < len(keys); j += 2 {
			for k := range keys {
				wantInSpan(t, keys[i], keys[j], keys[k], i <= k && k <= j)
			}
		}
	}
}

func TestSpansNearTheirEnds(t *testing.T) {
	keys := risingKeys()
	for i, a := range keys {
		wantInSpan(t, a, a, a, true)
		wantInSpan(t, keys[0], keys[len(keys)-1], a, true)
		wantInSpan(t, keys[len(keys)-1], keys[0], a, false)
		if i > 0 {
			b := keys[i-1]
			wantInSpan(t, b, a, a, true)
			wantInSpan(t, b, a, b, true)
			wantInSpan(t, a, b, a, false)
			wantInSpan(t, a, b, b, false)
			wantInSpan(t, a, a, b, false)
			wantInSpan(t, b, b, a, false)
		}
	}
	wantInSpan(t, intItem(1), intItem(3), intItem(2), true)
	wantInSpan(t, intItem(3), intItem(1), intItem(2), false)
	wantInSpan(t, textItem("a"), textItem("b"), textItem("az"), true)
	wantInSpan(t, textItem("a"), textItem("b"), textItem("ba"), false)
	wantInSpan(t, floatItem(math.NaN()), floatItem(math.NaN()), floatItem(math.Float64frombits(oneNaN+1)), true)
}

func TestSpansOfWhatIsNoKey(t *testing.T) {
	low, mid, high := intItem(math.MinInt), floatItem(0), textItem("\xFF\xFF\xFF")
	wantInSpan(t, low, high, mid, true)
	for _, wrong := range append(wrongItems(), impl.Item{}, floatItem(minusNought())) {
		wantInSpan(t, wrong, high, mid, false)
		wantInSpan(t, low, wrong, mid, false)
		wantInSpan(t, low, high, wrong, false)
		wantInSpan(t, wrong, wrong, mid, false)
		wantInSpan(t, wrong, high, wrong, false)
		wantInSpan(t, low, wrong, wrong, false)
		wantInSpan(t, wrong, wrong, wrong, false)
	}
}
