package tests

import (
	"fmt"
	"math"
	"slices"
	"strings"
	"testing"

	"loop.example/g00252/impl"
)

// textsOfItems are items of each kind, and their texts.
func textsOfItems() map[string]impl.Item {
	return map[string]impl.Item{
		"-":                       {},
		"i0":                      intItem(0),
		"i5":                      intItem(5),
		"i-5":                     intItem(-5),
		"i-1":                     intItem(-1),
		"i10":                     intItem(10),
		"i-100":                   intItem(-100),
		"i9223372036854775807":    intItem(math.MaxInt),
		"i-9223372036854775808":   intItem(math.MinInt),
		"i-9223372036854775807":   intItem(math.MinInt + 1),
		"f0000000000000000":       floatItem(0),
		"f8000000000000000":       floatItem(minusNought()),
		"f3ff0000000000000":       floatItem(1),
		"fbff0000000000000":       floatItem(-1),
		"f7ff0000000000000":       floatItem(math.Inf(1)),
		"ffff0000000000000":       floatItem(math.Inf(-1)),
		"f7ff8000000000000":       floatItem(math.NaN()),
		"f0000000000000001":       floatItem(math.SmallestNonzeroFloat64),
		"f8000000000000001":       floatItem(-math.SmallestNonzeroFloat64),
		"f000fffffffffffff":       floatItem(math.Float64frombits(faintBits)),
		"f7fefffffffffffff":       floatItem(math.MaxFloat64),
		"fffefffffffffffff":       floatItem(-math.MaxFloat64),
		"t":                       textItem(""),
		"t61":                     textItem("a"),
		"t617e":                   textItem("a~"),
		"t00":                     textItem("\x00"),
		"tff":                     textItem("\xff"),
		"t00ff00ff":               textItem("\x00\xff\x00\xff"),
		"t0a200d":                 textItem("\n \r"),
		"tabcdef":                 textItem("\xab\xcd\xef"),
		"tc3a9":                   textItem("é"),
		"t" + times("6b", 40):     longText("k"),
		"t" + times("00", 40):     longText("\x00"),
		"t" + times("ff", 40):     longText("\xff"),
		"t" + times("0f", 39):     textItem(times("\x0f", 39)),
		"t" + times("f0", 1):      textItem("\xf0"),
		"t2d":                     textItem("-"),
		"t6935":                   textItem("i5"),
		"t" + times("0123456", 2): textItem("\x01\x23\x45\x60\x12\x34\x56"),
	}
}

func times(s string, n int) string {
	return strings.Repeat(s, n)
}

func wantItemText(t *testing.T, name string, a impl.Item, want string) {
	t.Helper()
	if got := string(impl.ItemText(a)); got != want {
		t.Errorf("%s: ItemText of %v is %q, want %q", name, a, got, want)
	}
}

func wantItemRead(t *testing.T, name string, text string, want impl.Item, wantIs bool) {
	t.Helper()
	got, is := impl.ItemRead([]byte(text))
	if is != wantIs || !sameItem(got, want) {
		t.Errorf("%s: ItemRead of %q is %v, %t, want %v, %t", name, text, got, is, want, wantIs)
	}
}

// wantItemReadAsPlainly holds a text's item against the plain reading, and its text against it.
func wantItemReadAsPlainly(t *testing.T, name string, text string) bool {
	t.Helper()
	want, isOne := plainItemRead(text)
	wantItemRead(t, name, text, want, isOne)
	if isOne {
		wantItemText(t, name, want, text)
	}
	return isOne
}

func TestItemsHaveTheirTexts(t *testing.T) {
	for text, a := range textsOfItems() {
		wantItemText(t, "an item", a, text)
		wantItemRead(t, "an item", text, a, true)
	}
}

func TestItemsComeBackFromTheirTexts(t *testing.T) {
	for _, a := range append(risingItems(), floatItem(minusNought())) {
		wantItemText(t, "an item", a, plainItem(a))
		wantItemRead(t, "an item", plainItem(a), a, true)
	}
	for n := range 256 {
		for size := range 41 {
			a := textItem(times(string([]byte{byte(n)}), size))
			wantItemText(t, "a text", a, plainItem(a))
			wantItemRead(t, "a text", plainItem(a), a, true)
		}
	}
	for _, bits := range someBits(20000, 181) {
		for _, a := range []impl.Item{intItem(int(bits)), intItem(int(bits) >> (bits % 64)), floatItem(math.Float64frombits(bits)), textItem(string(someBytes(int(bits>>20%41), bits)))} {
			wantItemText(t, "drawn", a, plainItem(a))
			wantItemRead(t, "drawn", plainItem(a), a, true)
		}
	}
}

// Whatever its bits, a NaN has one text, from which a NaN comes back.
func TestEveryNaNHasOneText(t *testing.T) {
	wantItemRead(t, "a NaN", "f7ff8000000000000", floatItem(math.NaN()), true)
	for _, bits := range strangeNaNs() {
		wantItemText(t, "a NaN", floatItem(math.Float64frombits(bits)), "f7ff8000000000000")
		wantItemRead(t, "other bits of a NaN", fmt.Sprintf("f%016x", bits), impl.Item{}, false)
	}
}

func TestWrongItemsHaveNoText(t *testing.T) {
	for _, a := range wrongItems() {
		wantItemText(t, "a wrong item", a, "")
	}
	for _, a := range []impl.Item{{Kind: 4}, {Kind: -1}, {Kind: impl.ItNone, N: 1}, {Kind: impl.ItInt, F: minusNought()}, {Kind: impl.ItInt, T: []byte{0}}, {Kind: impl.ItFloat, N: -1}, {Kind: impl.ItText, N: 5, T: []byte("a")}, {Kind: impl.ItText, T: make([]byte, 41)}} {
		wantItemText(t, "a wrong item", a, "")
	}
}

func TestTextsOfNoItem(t *testing.T) {
	wantItemRead(t, "nil", "", impl.Item{}, false)
	if a, is := impl.ItemRead(nil); is || !sameItem(a, impl.Item{}) {
		t.Errorf("ItemRead of nil is %v, %t", a, is)
	}
	for _, text := range []string{
		" ", "--", "-0", "- ", " -", "-\n", "-i5", "-1", "?", "0", "5", "x5", "x", "\x00", "\xff", "é",
		"i", "i-", "i+", "i ", "i+5", "i-0", "i+0", "i00", "i-00", "i05", "i-05", "i005", "i 5", "i5 ", "i5\n", "i--5", "i-+5", "i5-", "i5.", "i5.0", "i5e1", "i1_0", "i0x5", "i0b1", "i0o7", "iff", "i５", "i\x05", "I5",
		"i9223372036854775808", "i-9223372036854775809", "i9223372036854775809", "i18446744073709551615", "i18446744073709551616", "i09223372036854775807", "i10000000000000000000", "i99999999999999999999", "i-99999999999999999999", "i" + times("9", 1000), "i" + times("0", 1000), "i-" + times("1", 1000),
		"f", "f0", "f-", "f1.5", "f+Inf", "fNaN", "f000000000000000", "f00000000000000000", "f3ff000000000000", "f3ff00000000000000", "f3FF0000000000000", "F3ff0000000000000", "f3ff000000000000g", "f+3ff000000000000", "f-3ff000000000000", "f0x3ff0000000000", "f3ff0_000000000_0", "f 3ff000000000000", "f3ff000000000000 ", "f3ff0000000000000 ", "f3ff0000000000000\n", "f" + times("0", 32),
		"f7ff0000000000001", "f7ff7ffffffffffff", "f7ff8000000000001", "f7fffffffffffffff", "ffff0000000000001", "ffff8000000000000", "fffffffffffffffff", "f7FF8000000000000",
		"t0", "t000", "t6", "t616", "t6g", "tg6", "t6A", "tA6", "tAB", "tFF", "T61", "t 61", "t61 ", "t61\n", "t6 1", "t+6", "t-6", "t6_1", "t0x61", "txx", "t\xff\xff", "té", "t" + times("6b", 40) + "6", "t" + times("6b", 41), "t" + times("00", 41), "t" + times("6b", 42), "t" + times("6b", 256+40), "t" + times("00", 100000),
		times("-", 2), times("-", 1000),
	} {
		wantItemRead(t, "a text of no item", text, impl.Item{}, false)
		if _, isOne := plainItemRead(text); isOne {
			t.Errorf("%q is a text of an item", text)
		}
	}
}

func TestAlteredTextsOfItems(t *testing.T) {
	count := 0
	for text := range textsOfItems() {
		for _, other := range alteredTexts(text) {
			count += oneIf(wantItemReadAsPlainly(t, "altered", other))
		}
	}
	if count < 1000 {
		t.Errorf("%d of them are items' texts", count)
	}
}

// All texts of at most four bytes of these.
func TestShortTextsOfItems(t *testing.T) {
	var ask func(text string)
	ask = func(text string) {
		wantItemReadAsPlainly(t, "short", text)
		for _, c := range "-ift019afAF+ \n" {
			if len(text) < 4 {
				ask(text + string(c))
			}
		}
	}
	ask("")
}

// By all numbers around those at which another digit comes.
func TestTextsOfNumbers(t *testing.T) {
	var numbers []int
	for n := 1; n > 0 && n < math.MaxInt/10; n *= 10 {
		for d := -2; d <= 2; d++ {
			numbers = append(numbers, n+d, -n+d)
		}
	}
	for _, n := range slices.Concat(numbers, risingNumbers(), upTo(-1100, 1100)) {
		wantItemText(t, "a number", intItem(n), fmt.Sprint("i", n))
		wantItemRead(t, "a number", fmt.Sprint("i", n), intItem(n), true)
		wantItemRead(t, "a number with a nought", fmt.Sprintf("i0%d", n), impl.Item{}, false)
		wantItemRead(t, "a number with a sign", fmt.Sprintf("i+%d", n), impl.Item{}, false)
		wantItemRead(t, "a number with two signs", fmt.Sprintf("i-%d", min(n, 0)), impl.Item{}, false)
	}
}
