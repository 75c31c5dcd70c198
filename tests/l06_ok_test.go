package tests

import (
	"math"
	"testing"

	"loop.example/g00252/impl"
)

func wantTupleOk(t *testing.T, name string, a impl.Tuple, want bool) {
	t.Helper()
	if got := impl.TupleOk(a); got != want {
		t.Errorf("%s: TupleOk(%v) is %t, want %t", name, a, got, want)
	}
}

func TestRightTuplesAreOk(t *testing.T) {
	for _, a := range rightTuples() {
		wantTupleOk(t, "a right tuple", a, true)
	}
}

func TestEachWrongFieldOfATupleIsTold(t *testing.T) {
	for _, w := range wrongTuples() {
		wantTupleOk(t, "a wrong "+w.name, w.t, false)
	}
}

func TestTupleOkAtTheLimitsOfXminAndXmax(t *testing.T) {
	numbers := []int{math.MinInt, math.MinInt + 1, -1 << 32, -401, -400, -2, -1, 0, 1, 2, 255, 256, 257, 399, 400, 401, 402, 65536, 65537, 1<<32 - 1, 1 << 32, 1<<32 + 1, 1<<32 + 400, math.MaxInt - 1, math.MaxInt}
	for _, xmin := range numbers {
		for _, xmax := range numbers {
			a := oneTuple()
			a.Xmin, a.Xmax = xmin, xmax
			wantTupleOk(t, "its numbers", a, xmin >= 1 && xmin <= 400 && xmax >= 0 && xmax <= 400)
		}
	}
	for n := -3; n < 410; n++ {
		a, b := oneTuple(), oneTuple()
		a.Xmin, b.Xmax = n, n
		wantTupleOk(t, "each Xmin", a, n >= 1 && n <= impl.MaxXid)
		wantTupleOk(t, "each Xmax", b, n >= 0 && n <= impl.MaxXid)
	}
}

func TestTupleOkOfItemsTheIssueNames(t *testing.T) {
	for _, c := range []struct {
		name    string
		a       impl.Item
		isKey   bool
		isValue bool
	}{
		{"ItNone", impl.Item{}, false, false},
		{"ItNone with a number", impl.Item{N: 1}, false, false},
		{"a number", intItem(0), true, true},
		{"a number with a float", impl.Item{Kind: impl.ItInt, N: 1, F: 1}, false, false},
		{"a number with a -0", impl.Item{Kind: impl.ItInt, N: 1, F: minusNought()}, false, false},
		{"a number with a text", impl.Item{Kind: impl.ItInt, T: []byte("a")}, false, false},
		{"+0", floatItem(0), true, true},
		{"-0", floatItem(minusNought()), false, true},
		{"NaN", floatItem(math.NaN()), true, true},
		{"a strange NaN", floatItem(math.Float64frombits(signBit | infBits + 1)), true, true},
		{"a float with a number", impl.Item{Kind: impl.ItFloat, F: 1, N: 1}, false, false},
		{"a float with a text", impl.Item{Kind: impl.ItFloat, F: 1, T: []byte{0}}, false, false},
		{"no text", textItem(""), true, true},
		{"the longest text", impl.Item{Kind: impl.ItText, T: make([]byte, 40)}, true, true},
		{"a text that is too long", impl.Item{Kind: impl.ItText, T: make([]byte, 41)}, false, false},
		{"a text with a number", impl.Item{Kind: impl.ItText, N: 1, T: []byte("a")}, false, false},
		{"a text with a -0", impl.Item{Kind: impl.ItText, F: minusNought(), T: []byte("a")}, false, false},
		{"no kind below", impl.Item{Kind: -1}, false, false},
		{"no kind above", impl.Item{Kind: 4}, false, false},
	} {
		for _, other := range []impl.Item{intItem(3), floatItem(2), textItem("o")} {
			wantTupleOk(t, c.name+" as key", impl.Tuple{Xmin: 1, Key: c.a, Value: other}, c.isKey)
			wantTupleOk(t, c.name+" as value", impl.Tuple{Xmin: 1, Key: other, Value: c.a}, c.isValue)
		}
		wantTupleOk(t, c.name+" as both", impl.Tuple{Xmin: 1, Key: c.a, Value: c.a}, c.isKey && c.isValue)
	}
}

func TestTuplesWrongInSeveralFieldsAreNotOk(t *testing.T) {
	wrong := []func(*impl.Tuple){
		func(a *impl.Tuple) { a.Xmin = 0 },
		func(a *impl.Tuple) { a.Xmax = -1 },
		func(a *impl.Tuple) { a.Key = impl.Item{} },
		func(a *impl.Tuple) { a.Value = impl.Item{} },
	}
	for set := range 1 << len(wrong) {
		a := oneTuple()
		for i, change := range wrong {
			if set>>i&1 == 1 {
				change(&a)
			}
		}
		wantTupleOk(t, "several fields", a, set == 0)
	}
}

func TestRoomBehindATuplesTextsDoesNotCount(t *testing.T) {
	text := impl.Item{Kind: impl.ItText, T: make([]byte, 100)[:40]}
	none := impl.Item{Kind: impl.ItInt, T: make([]byte, 100)[:0]}
	wantTupleOk(t, "room behind texts", impl.Tuple{Xmin: 1, Key: text, Value: text}, true)
	wantTupleOk(t, "room behind no text", impl.Tuple{Xmin: 1, Key: none, Value: none}, true)
	if b := impl.TupleBytes(impl.Tuple{Xmin: 1, Key: text, Value: none}); len(b) != 10+41+9 {
		t.Errorf("a tuple with room behind its texts has %d bytes", len(b))
	}
}
