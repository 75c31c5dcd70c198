package tests

import (
	"bytes"
	"encoding/binary"
	"math"
	"slices"
	"strings"
	"testing"

	"loop.example/g00252/impl"
)

// plainBytes lays the kind, and behind it the number high first.
func plainBytes(kind byte, n uint64) []byte {
	return binary.BigEndian.AppendUint64([]byte{kind}, n)
}

// strangeBytes are bytes that neither a key nor a value has.
func strangeBytes() [][]byte {
	l := [][]byte{{}, {0}, {1}, {2}, {4}, {255}, plainBytes(0, 0), plainBytes(0, midRank), plainBytes(4, midRank), plainBytes(255, midRank), []byte("\x00a"), []byte("\x04a"), []byte("a")}
	for _, kind := range []byte{impl.ItInt, impl.ItFloat} {
		for n := range 60 {
			if n != 8 {
				l = append(l, append([]byte{kind}, make([]byte, n)...), append([]byte{kind}, bytes.Repeat([]byte{0x80}, n)...))
			}
		}
	}
	for kind := range 256 {
		if kind == 0 || kind > 3 {
			l = append(l, []byte{byte(kind)}, plainBytes(byte(kind), 1<<63+1), append([]byte{byte(kind)}, "ab"...))
		}
	}
	for _, n := range []int{impl.MaxText + 1, impl.MaxText + 2, 255, 256, 257, 65536, 65537} {
		l = append(l, append([]byte{impl.ItText}, make([]byte, n)...))
	}
	return l
}

func wantKey(t *testing.T, a impl.Item, b []byte) {
	t.Helper()
	if got := impl.KeyBytes(a); !bytes.Equal(got, b) {
		t.Errorf("KeyBytes(%v) = %x, want %x", a, got, b)
	}
	if got, ok := impl.KeyRead(b); !ok || !sameItem(got, a) {
		t.Errorf("KeyRead(%x) = %v, %t, want %v", b, got, ok, a)
	}
}

func wantValue(t *testing.T, a impl.Item, b []byte) {
	t.Helper()
	if got := impl.ValueBytes(a); !bytes.Equal(got, b) {
		t.Errorf("ValueBytes(%v) = %x, want %x", a, got, b)
	}
	if got, ok := impl.ValueRead(b); !ok || !sameItem(got, a) {
		t.Errorf("ValueRead(%x) = %v, %t, want %v", b, got, ok, a)
	}
}

func wantNoKey(t *testing.T, b []byte) {
	t.Helper()
	if got, ok := impl.KeyRead(b); ok || !sameItem(got, impl.Item{}) {
		t.Errorf("KeyRead(%x) = %v, %t, want none", b, got, ok)
	}
}

func wantNoValue(t *testing.T, b []byte) {
	t.Helper()
	if got, ok := impl.ValueRead(b); ok || !sameItem(got, impl.Item{}) {
		t.Errorf("ValueRead(%x) = %v, %t, want none", b, got, ok)
	}
}

func TestNumbersAsKeysAndValues(t *testing.T) {
	for _, c := range []struct {
		n int
		b string
	}{
		{0, "\x01\x80\x00\x00\x00\x00\x00\x00\x00"},
		{1, "\x01\x80\x00\x00\x00\x00\x00\x00\x01"},
		{-1, "\x01\x7F\xFF\xFF\xFF\xFF\xFF\xFF\xFF"},
		{0x0102030405060708, "\x01\x81\x02\x03\x04\x05\x06\x07\x08"},
		{math.MinInt, "\x01\x00\x00\x00\x00\x00\x00\x00\x00"},
		{math.MaxInt, "\x01\xFF\xFF\xFF\xFF\xFF\xFF\xFF\xFF"},
	} {
		wantKey(t, intItem(c.n), []byte(c.b))
		wantValue(t, intItem(c.n), []byte(c.b))
	}
	for _, n := range risingNumbers() {
		wantKey(t, intItem(n), plainBytes(1, uint64(n)^1<<63))
		wantValue(t, intItem(n), plainBytes(1, uint64(n)^1<<63))
	}
	for _, bits := range someBits(2000, 37) {
		wantKey(t, intItem(int(bits)), plainBytes(1, bits^1<<63))
		wantValue(t, intItem(int(bits)), plainBytes(1, bits^1<<63))
	}
}

func TestFloatsAsKeys(t *testing.T) {
	wantKey(t, floatItem(0), plainBytes(2, midRank))
	wantKey(t, floatItem(1), plainBytes(2, midRank+oneBits))
	wantKey(t, floatItem(-1), plainBytes(2, ^(signBit|oneBits)))
	wantKey(t, floatItem(math.Inf(1)), plainBytes(2, midRank+infBits))
	wantKey(t, floatItem(math.Inf(-1)), plainBytes(2, ^(signBit|infBits)))
	wantKey(t, floatItem(math.NaN()), plainBytes(2, lastRank))
	for _, bits := range plusBits() {
		wantKey(t, floatItem(math.Float64frombits(bits)), plainBytes(2, midRank+bits))
		wantKey(t, floatItem(math.Float64frombits(signBit|bits)), plainBytes(2, ^(signBit|bits)))
	}
	for _, bits := range strangeNaNs() {
		wantKey(t, floatItem(math.Float64frombits(bits)), plainBytes(2, lastRank))
	}
}

func TestFloatsAsValues(t *testing.T) {
	wantValue(t, floatItem(0), plainBytes(2, 0))
	wantValue(t, floatItem(minusNought()), plainBytes(2, signBit))
	wantValue(t, floatItem(1), plainBytes(2, oneBits))
	wantValue(t, floatItem(-1), plainBytes(2, signBit|oneBits))
	wantValue(t, floatItem(math.NaN()), plainBytes(2, oneNaN))
	for _, bits := range plusBits() {
		wantValue(t, floatItem(math.Float64frombits(bits)), plainBytes(2, bits))
		wantValue(t, floatItem(math.Float64frombits(signBit|bits)), plainBytes(2, signBit|bits))
	}
	for _, bits := range strangeNaNs() {
		wantValue(t, floatItem(math.Float64frombits(bits)), plainBytes(2, oneNaN))
	}
	if a, ok := impl.ValueRead(plainBytes(2, signBit)); !ok || !math.Signbit(a.F) || a.F != 0 {
		t.Errorf("-0 comes back as %v, %t", a, ok)
	}
}

func TestManyFloatsAsKeysAndValues(t *testing.T) {
	for _, bits := range someBits(5000, 38) {
		f := math.Float64frombits(bits)
		if f != f || f == 0 {
			continue
		}
		wantValue(t, floatItem(f), plainBytes(2, bits))
		rank := bits ^ signBit
		if f < 0 {
			rank = ^bits
		}
		wantKey(t, floatItem(f), plainBytes(2, rank))
	}
}

func TestTextsAsKeysAndValues(t *testing.T) {
	texts := risingTexts()
	for n := range impl.MaxText + 1 {
		texts = append(texts, strings.Repeat("x", n), string(make([]byte, n)), string(someBytes(n, uint64(n))))
	}
	for _, s := range texts {
		wantKey(t, textItem(s), []byte("\x03"+s))
		wantValue(t, textItem(s), []byte("\x03"+s))
	}
}

func TestKeyBytesCompareAsTheKeys(t *testing.T) {
	keys := risingKeys()
	for i, a := range keys {
		for _, b := range keys[i+1:] {
			if bytes.Compare(impl.KeyBytes(a), impl.KeyBytes(b)) != -1 {
				t.Errorf("the bytes of %v do not stand ahead of those of %v", a, b)
			}
		}
	}
	many := slices.Clone(keys)
	for i, bits := range someBits(600, 39) {
		many = append(many, intItem(int(bits)), floatItem(math.Float64frombits(bits)), impl.Item{Kind: impl.ItText, T: someBytes(i%(impl.MaxText+1), bits%50)})
	}
	for i, a := range many {
		for j := i % 7; j < len(many); j += 7 {
			b := many[j]
			if got, want := bytes.Compare(impl.KeyBytes(a), impl.KeyBytes(b)), impl.ItemCompare(a, b); got != want {
				t.Errorf("the bytes of %v and %v compare as %d, the keys as %d", a, b, got, want)
			}
		}
	}
}

func TestNoBytesOfWhatIsNoKeyOrValue(t *testing.T) {
	for _, a := range append(wrongItems(), impl.Item{}, impl.Item{T: []byte{}}) {
		if b := impl.KeyBytes(a); len(b) != 0 {
			t.Errorf("KeyBytes(%v) = %x", a, b)
		}
		if b := impl.ValueBytes(a); len(b) != 0 {
			t.Errorf("ValueBytes(%v) = %x", a, b)
		}
	}
	if b := impl.KeyBytes(floatItem(minusNought())); len(b) != 0 {
		t.Errorf("KeyBytes of -0 = %x", b)
	}
}

func TestBytesOfNoKeyAndNoValue(t *testing.T) {
	wantNoKey(t, nil)
	wantNoValue(t, nil)
	for _, b := range strangeBytes() {
		wantNoKey(t, b)
		wantNoValue(t, b)
	}
}

func TestBytesCutOrGrownAreOthers(t *testing.T) {
	for _, a := range risingKeys() {
		key, value := impl.KeyBytes(a), impl.ValueBytes(a)
		if a.Kind == impl.ItText {
			if len(a.T) == impl.MaxText {
				wantNoKey(t, append(key, 0))
				wantNoValue(t, append(value, 0))
			}
			continue
		}
		for cut := range len(key) {
			wantNoKey(t, key[:cut])
			wantNoValue(t, value[:cut])
		}
		wantNoKey(t, append(key, 0))
		wantNoValue(t, append(value, 0))
		wantNoKey(t, append(key, key...))
		wantNoValue(t, append(value, value...))
	}
}

func TestRanksOfNoFloatAreNoKeys(t *testing.T) {
	ranks := []uint64{0, 1, midRank - 1, lastRank - 1, lastRank - 2, ^(signBit | infBits) - 1, midRank + infBits + 1, midRank + oneNaN}
	for _, rank := range ranks {
		wantNoKey(t, plainBytes(2, rank))
	}
	wantKey(t, floatItem(math.Inf(-1)), plainBytes(2, ^(signBit|infBits)))
	wantKey(t, floatItem(-math.SmallestNonzeroFloat64), plainBytes(2, midRank-2))
	wantKey(t, floatItem(math.SmallestNonzeroFloat64), plainBytes(2, midRank+1))
}

func TestOtherNaNsAreNoValues(t *testing.T) {
	for _, bits := range strangeNaNs() {
		wantNoValue(t, plainBytes(2, bits))
	}
	wantValue(t, floatItem(math.NaN()), plainBytes(2, 9221120237041090560))
}

func TestReadsAndBytesAreOneToOne(t *testing.T) {
	for seed := range 6000 {
		b := someBytes(1+seed%46, uint64(seed))
		b[0] %= 5
		if a, ok := impl.KeyRead(b); ok && !bytes.Equal(impl.KeyBytes(a), b) {
			t.Errorf("KeyRead(%x) = %v, whose bytes are others", b, a)
		}
		if a, ok := impl.ValueRead(b); ok && !bytes.Equal(impl.ValueBytes(a), b) {
			t.Errorf("ValueRead(%x) = %v, whose bytes are others", b, a)
		}
	}
}

func TestItemBytesAreNewMemory(t *testing.T) {
	for _, f := range []func(impl.Item) []byte{impl.KeyBytes, impl.ValueBytes} {
		for _, n := range []int{0, 1, 9, impl.MaxText, impl.MaxText + 1} {
			g := guard(someBytes(n, 40))
			got := f(impl.Item{Kind: impl.ItText, T: g.b})
			g.check(t, "bytes of a text")
			want := bytes.Clone(got)
			spoil(g.b)
			if !bytes.Equal(got, want) {
				t.Errorf("the bytes of a text of %d share memory with it", n)
			}
			spoil(g.b)
			spoil(got)
			g.check(t, "bytes of a text, spoilt")
		}
		first := f(intItem(5))
		spoil(first)
		if again := f(intItem(5)); !bytes.Equal(again, plainBytes(1, 1<<63+5)) {
			t.Errorf("spoilt bytes show in later ones: %x", again)
		}
	}
}

func TestItemReadsAreNewMemory(t *testing.T) {
	for _, f := range []func([]byte) (impl.Item, bool){impl.KeyRead, impl.ValueRead} {
		for _, n := range []int{0, 1, 9, impl.MaxText, impl.MaxText + 1} {
			text := someBytes(n, 41)
			g := guard(join([]byte{impl.ItText}, text))
			got, ok := f(g.b)
			g.check(t, "a read text")
			spoil(g.b)
			if ok && !bytes.Equal(got.T, text) || ok != (n <= impl.MaxText) {
				t.Errorf("a read text of %d bytes shares memory with the bytes", n)
			}
			spoil(g.b)
			spoil(got.T)
			g.check(t, "a read text, spoilt")
		}
	}
}
