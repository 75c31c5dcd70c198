package tests

import (
	"bytes"
	"math"
	"testing"

	"loop.example/g00252/impl"
)

func TestTuplesComeBack(t *testing.T) {
	for _, a := range rightTuples() {
		b := impl.TupleBytes(a)
		if len(b) == 0 || len(b) > impl.MaxTuple {
			t.Fatalf("TupleBytes(%v) has %d bytes", a, len(b))
		}
		wantTuple(t, "from its own bytes", b, a)
		wantTuple(t, "from bytes as told", plainTuple(a), a)
	}
}

func TestTuplesOfManyItemsComeBack(t *testing.T) {
	numbers := someBits(3000, 62)
	for i, bits := range numbers {
		other := numbers[len(numbers)-1-i]
		keys := []impl.Item{intItem(int(bits)), floatItem(math.Float64frombits(bits)), {Kind: impl.ItText, T: someBytes(i%41, bits)}}
		values := []impl.Item{intItem(int(other)), floatItem(math.Float64frombits(other)), {Kind: impl.ItText, T: someBytes(i/41%41, other)}}
		a := impl.Tuple{Xmin: 1 + i%400, Xmax: i * 7 % 401, Key: keys[i%3], Value: values[i/3%3]}
		if impl.TupleOk(a) {
			wantTuple(t, "many items", impl.TupleBytes(a), a)
		}
	}
}

func TestANoughtBelowComesBackAsAValue(t *testing.T) {
	for _, key := range someKeys() {
		got, ok := impl.TupleRead(impl.TupleBytes(impl.Tuple{Xmin: 1, Key: key, Value: floatItem(minusNought())}))
		if !ok || got.Value.F != 0 || !math.Signbit(got.Value.F) {
			t.Errorf("-0 with the key %v comes back as %v, %t", key, got, ok)
		}
		got, ok = impl.TupleRead(impl.TupleBytes(impl.Tuple{Xmin: 1, Key: key, Value: floatItem(0)}))
		if !ok || got.Value.F != 0 || math.Signbit(got.Value.F) {
			t.Errorf("+0 with the key %v comes back as %v, %t", key, got, ok)
		}
	}
}

func TestAllNaNsComeBackAsOne(t *testing.T) {
	for _, bits := range strangeNaNs() {
		nan := floatItem(math.Float64frombits(bits))
		b := impl.TupleBytes(impl.Tuple{Xmin: 1, Xmax: 2, Key: nan, Value: nan})
		if !bytes.Equal(b, laid(1, 2, plainBytes(2, lastRank), plainBytes(2, oneNaN))) {
			t.Errorf("the NaN %x has the bytes %x", bits, b)
		}
		wantTuple(t, "a NaN", b, impl.Tuple{Xmin: 1, Xmax: 2, Key: floatItem(math.NaN()), Value: floatItem(math.NaN())})
	}
}

func TestTuplesCutAnywhereAreNone(t *testing.T) {
	wantNoTuple(t, "no bytes", nil)
	wantNoTuple(t, "an empty list", []byte{})
	for _, a := range rightTuples() {
		b := plainTuple(a)
		for cut := range len(b) {
			wantNoTuple(t, "cut, with the rest behind the length", b[:cut])
			wantNoTuple(t, "cut at the front", b[len(b)-cut:])
		}
	}
}

func TestTuplesWithMoreBehindAreNone(t *testing.T) {
	for _, a := range oneTupleOfEach() {
		b := plainTuple(a)
		for c := range 256 {
			wantNoTuple(t, "one more", join(b, []byte{byte(c)}))
		}
		for _, n := range []int{2, 9, 80, 255, 256, 257, 65536, 65537, 1 << 20} {
			wantNoTuple(t, "many more", join(b, make([]byte, n)))
		}
		wantNoTuple(t, "twice", join(b, b))
	}
	longest := plainTuple(impl.Tuple{Xmin: 1, Key: longText("k"), Value: longText("v")})
	wantNoTuple(t, "one more than MaxTuple", append(longest, 0))
}

func TestTuplesWithOneByteMoreInTheMidst(t *testing.T) {
	for _, a := range oneTupleOfEach() {
		b := plainTuple(a)
		for at := range len(b) + 1 {
			for _, c := range []byte{0, 1, 2, 3, 9, 255} {
				wantAsRead(t, join(b[:at], []byte{c}, b[at:]))
			}
		}
	}
}

func TestLengthsOfTheValueThatSayOtherwise(t *testing.T) {
	for _, a := range rightTuples() {
		b := plainTuple(a)
		at := tupleKeyPlace + 1 + len(plainKey(a.Key))
		right := b[at]
		for size := range 256 {
			if byte(size) != right {
				b[at] = byte(size)
				wantNoTuple(t, "another length of the value", b)
			}
		}
	}
}

func TestLengthsOfTheKeyThatSayOtherwise(t *testing.T) {
	for _, a := range rightTuples() {
		b := plainTuple(a)
		right := b[tupleKeyPlace]
		for size := range 256 {
			if byte(size) == right {
				continue
			}
			b[tupleKeyPlace] = byte(size)
			wantAsRead(t, b)
			if a.Key.Kind != impl.ItText || size == 0 || size > 41 {
				wantNoTuple(t, "another length of the key", b)
			}
		}
	}
}

// A text may hold what looks like a length and a part: then the key's length alone tells where it ends.
func TestLengthsTellWhereTheKeyEnds(t *testing.T) {
	b := laid(1, 0, []byte("\x03a"), []byte("\x03b\x03\x03cd"))
	wantTuple(t, "the shorter key", b, impl.Tuple{Xmin: 1, Key: textItem("a"), Value: textItem("b\x03\x03cd")})
	b[tupleKeyPlace] += 3
	wantTuple(t, "the longer key", b, impl.Tuple{Xmin: 1, Key: textItem("a\x06\x03b"), Value: textItem("cd")})
	for _, size := range []byte{0, 1, 3, 4, 6, 7, 8, 9} {
		b[tupleKeyPlace] = size
		wantNoTuple(t, "a key that ends elsewhere", b)
	}
}

func TestNumbersOutOfTheirLimitsAreNoTuple(t *testing.T) {
	high := []uint32{401, 402, 511, 512, 655, 656, 65535, 65536, 65537, 65936, 1 << 24, 1<<24 + 1, 1<<31 - 1, 1 << 31, 1<<31 + 1, 1<<31 + 400, 1<<32 - 400, 1<<32 - 1}
	for _, a := range oneTupleOfEach() {
		key, value := plainKey(a.Key), plainValue(a.Value)
		wantNoTuple(t, "Xmin 0", laid(0, 0, key, value))
		wantNoTuple(t, "Xmin 0, an Xmax", laid(0, 5, key, value))
		for _, n := range high {
			wantNoTuple(t, "a high Xmin", laid(n, 0, key, value))
			wantNoTuple(t, "a high Xmin, an Xmax", laid(n, 400, key, value))
			wantNoTuple(t, "a high Xmax", laid(1, n, key, value))
			wantNoTuple(t, "a high Xmax with the highest Xmin", laid(400, n, key, value))
			wantNoTuple(t, "both high", laid(n, n, key, value))
		}
		for n := range 400 {
			want := impl.Tuple{Xmin: n + 1, Xmax: 400 - n, Key: a.Key, Value: a.Value}
			wantTuple(t, "numbers within", laid(uint32(n+1), uint32(400-n), key, value), want)
		}
	}
}

func TestBytesOfNoKeyOrNoValueAreNoTuple(t *testing.T) {
	key, value := plainKey(intItem(5)), plainValue(textItem("ab"))
	for _, b := range strangeBytes() {
		if len(b) > 255 {
			continue
		}
		wantNoTuple(t, "bytes of no key", laid(1, 0, b, value))
		wantNoTuple(t, "bytes of no value", laid(1, 0, key, b))
		wantNoTuple(t, "bytes of neither", laid(1, 0, b, b))
	}
	for _, rank := range []uint64{0, 1, midRank - 1, lastRank - 1, ^(signBit | infBits) - 1, midRank + infBits + 1, midRank + oneNaN} {
		wantNoTuple(t, "a rank of no float as key", laid(1, 0, plainBytes(2, rank), value))
	}
	for _, bits := range strangeNaNs() {
		wantNoTuple(t, "bits of another NaN as value", laid(1, 0, key, plainBytes(2, bits)))
	}
	for _, part := range [][]byte{{}, {0}, {0, 0}, plainBytes(0, 0), plainBytes(0, midRank)} {
		wantNoTuple(t, "a value ItNone", laid(1, 0, key, part))
		wantNoTuple(t, "a key ItNone", laid(1, 0, part, value))
	}
	for size := impl.MaxText + 1; size < 255; size++ {
		text := append([]byte{3}, make([]byte, size)...)
		wantNoTuple(t, "a key that is too long", laid(1, 0, text, value))
		wantNoTuple(t, "a value that is too long", laid(1, 0, key, text))
	}
}

// wantAsRead holds TupleRead against the reading by the document's words, and what it tells against its bytes.
func wantAsRead(t *testing.T, b []byte) {
	t.Helper()
	want, wantOk := plainTupleRead(b)
	got, ok := impl.TupleRead(b)
	if ok != wantOk || !sameTuple(got, want) {
		t.Errorf("TupleRead(%x) = %v, %t, want %v, %t", b, got, ok, want, wantOk)
	}
	if ok && !bytes.Equal(impl.TupleBytes(got), b) {
		t.Errorf("TupleRead(%x) = %v, which has other bytes", b, got)
	}
	if !ok && !sameTuple(got, impl.Tuple{}) {
		t.Errorf("TupleRead(%x): beside the false stands %v", b, got)
	}
}

func TestTuplesWithAnyByteChanged(t *testing.T) {
	for _, a := range oneTupleOfEach() {
		for at := range plainTuple(a) {
			for turn := 1; turn < 256; turn++ {
				b := plainTuple(a)
				b[at] ^= byte(turn)
				wantAsRead(t, b)
				if got, ok := impl.TupleRead(b); ok && sameTuple(got, a) {
					t.Errorf("%v also has the bytes %x", a, b)
				}
			}
		}
	}
}

// someParts are bytes of a key or of a value, or nearly so.
func someParts(n uint64) []byte {
	b := someBytes(1+int(n%43), n)
	b[0] %= 4
	if b[0] == impl.ItInt || b[0] == impl.ItFloat {
		b = append(b, make([]byte, 9)...)[:9-n/43%17/16]
	}
	return b
}

func TestTupleReadTellsJustTheBytesOfTuples(t *testing.T) {
	told := 0
	const all = 20000
	for _, bits := range someBits(all, 66) {
		b := laid(uint32(bits%450), uint32(bits>>16%450), someParts(bits>>3%5000), someParts(bits>>20%5000))
		if bits>>40%4 == 0 {
			b[tupleKeyPlace] ^= 1 << (bits >> 44 % 8)
		}
		wantAsRead(t, b)
		if _, ok := impl.TupleRead(b); ok {
			told++
		}
	}
	if told < all/10 || told > all*9/10 {
		t.Errorf("%d of %d are tuples: the test asks for too little", told, all)
	}
}
