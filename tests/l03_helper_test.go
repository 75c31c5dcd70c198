package tests

import (
	"bytes"
	"math"
	"slices"
	"strings"
	"testing"

	"loop.example/g00252/impl"
)

func intItem(n int) impl.Item {
	return impl.Item{Kind: impl.ItInt, N: n}
}

func floatItem(f float64) impl.Item {
	return impl.Item{Kind: impl.ItFloat, F: f}
}

func textItem(s string) impl.Item {
	return impl.Item{Kind: impl.ItText, T: []byte(s)}
}

// sameItem holds items against each other field by field, noughts apart and all NaNs one.
func sameItem(a impl.Item, b impl.Item) bool {
	return a.Kind == b.Kind && a.N == b.N && sameFloat(a.F, b.F) && bytes.Equal(a.T, b.T)
}

// risingNumbers are whole numbers from the least to the greatest.
func risingNumbers() []int {
	return []int{
		math.MinInt, math.MinInt + 1, -1 << 56, math.MinInt32 - 1, math.MinInt32, -65537, -65536, -257, -256, -255, -2, -1,
		0, 1, 2, 127, 128, 255, 256, 257, 65535, 65536, math.MaxInt32, math.MaxInt32 + 1, 1 << 56, math.MaxInt - 1, math.MaxInt,
	}
}

// risingTexts are texts each of which stands ahead of the next, up to one of MaxText greatest bytes.
func risingTexts() []string {
	return []string{
		"", "\x00", "\x00\x00", "\x00\xFF", "\x01", " ", "0", "A", "AA", "B", "a", "a\x00", "aa", "aaa", "ab", "abc", "b",
		strings.Repeat("b", 2), strings.Repeat("b", impl.MaxText-1), strings.Repeat("b", impl.MaxText),
		"z", "\x7F", "\x7F\xFF", "\x80", "\xC3\xA4", "\xC3\xA5", "\xFE\xFF\xFF", "\xFF", "\xFF\x00", "\xFF\xFF",
		strings.Repeat("\xFF", impl.MaxText-1), strings.Repeat("\xFF", impl.MaxText),
	}
}

// risingKeys are keys each of which stands ahead of the next.
func risingKeys() []impl.Item {
	var l []impl.Item
	for _, n := range risingNumbers() {
		l = append(l, intItem(n))
	}
	for _, f := range rising() {
		l = append(l, floatItem(f))
	}
	for _, s := range risingTexts() {
		l = append(l, textItem(s))
	}
	return l
}

func risingItems() []impl.Item {
	return slices.Concat([]impl.Item{{}}, risingKeys())
}

// otherFloats are floats that no item of another kind than ItFloat may hold.
func otherFloats() []float64 {
	l := []float64{minusNought(), math.NaN(), math.Inf(1), math.Inf(-1), 1, -1, math.SmallestNonzeroFloat64, -math.SmallestNonzeroFloat64}
	for _, bits := range strangeNaNs() {
		l = append(l, math.Float64frombits(bits))
	}
	return l
}

// wrongItems are items none of which is as the chapter wants it.
func wrongItems() []impl.Item {
	var l []impl.Item
	for _, kind := range []int{math.MinInt, math.MinInt + 1, -256, -2, -1, 4, 5, 255, 256, 257, 258, 259, 1 << 32, 1<<32 + 1, math.MaxInt - 1, math.MaxInt} {
		l = append(l, impl.Item{Kind: kind}, impl.Item{Kind: kind, N: 1}, impl.Item{Kind: kind, F: 1}, impl.Item{Kind: kind, T: []byte("a")})
	}
	for _, n := range []int{math.MinInt, -1, 1, 256, 1 << 32, math.MaxInt} {
		l = append(l, impl.Item{N: n}, impl.Item{Kind: impl.ItFloat, N: n}, impl.Item{Kind: impl.ItFloat, N: n, F: 1}, impl.Item{Kind: impl.ItText, N: n, T: []byte("a")}, impl.Item{Kind: impl.ItText, N: n})
	}
	for _, f := range otherFloats() {
		l = append(l, impl.Item{F: f}, impl.Item{Kind: impl.ItInt, F: f}, impl.Item{Kind: impl.ItInt, N: 1, F: f}, impl.Item{Kind: impl.ItText, F: f}, impl.Item{Kind: impl.ItText, F: f, T: []byte("a")})
	}
	for _, n := range []int{1, 2, impl.MaxText, impl.MaxText + 1} {
		b := someBytes(n, 30)
		l = append(l, impl.Item{T: b}, impl.Item{Kind: impl.ItInt, T: b}, impl.Item{Kind: impl.ItInt, N: 1, T: b}, impl.Item{Kind: impl.ItFloat, T: b}, impl.Item{Kind: impl.ItFloat, F: 1, T: b})
	}
	for _, n := range []int{impl.MaxText + 1, impl.MaxText + 2, 255, 256, 256 + impl.MaxText, 65536, 65537} {
		l = append(l, impl.Item{Kind: impl.ItText, T: make([]byte, n)})
	}
	return append(l,
		impl.Item{Kind: impl.ItInt, T: []byte{0}},
		impl.Item{Kind: impl.ItNone, T: []byte{0}},
		impl.Item{Kind: impl.ItFloat, F: 1, N: 1, T: []byte("a")},
	)
}

// wantNoPanics calls all functions of the chapter with these items and bytes.
func wantNoPanics(t *testing.T, a impl.Item, b impl.Item, l []byte) {
	t.Helper()
	quiet(t, "ItemOk", func() { impl.ItemOk(a) })
	quiet(t, "ItemCompare", func() { impl.ItemCompare(a, b) })
	quiet(t, "ItemClean", func() { impl.ItemClean(a) })
	quiet(t, "KeyOk", func() { impl.KeyOk(a) })
	quiet(t, "KeyBytes", func() { impl.KeyBytes(a) })
	quiet(t, "KeyRead", func() { impl.KeyRead(l) })
	quiet(t, "ValueBytes", func() { impl.ValueBytes(a) })
	quiet(t, "ValueRead", func() { impl.ValueRead(l) })
	quiet(t, "InSpan", func() { impl.InSpan(a, b, a) })
}
