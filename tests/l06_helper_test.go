package tests

import (
	"encoding/binary"
	"math"
	"strings"
	"testing"

	"loop.example/g00252/impl"
)

// The places of a tuple's bytes as the document tells them: two numbers of four bytes, and the key's length.
const tupleXmaxPlace = 4
const tupleKeyPlace = 8

func sameTuple(a impl.Tuple, b impl.Tuple) bool {
	return a.Xmin == b.Xmin && a.Xmax == b.Xmax && sameItem(a.Key, b.Key) && sameItem(a.Value, b.Value)
}

// plainRank is the document's rank of a float, by words of its own.
func plainRank(f float64) uint64 {
	bits := math.Float64bits(f)
	switch {
	case f != f:
		return lastRank
	case f < 0:
		return ^bits
	case f > 0:
		return bits | signBit
	}
	return midRank
}

func plainKey(a impl.Item) []byte {
	if a.Kind == impl.ItFloat {
		return plainBytes(2, plainRank(a.F))
	}
	return plainValue(a)
}

func plainValue(a impl.Item) []byte {
	switch {
	case a.Kind == impl.ItInt:
		return plainBytes(1, uint64(a.N)^1<<63)
	case a.Kind == impl.ItFloat && a.F != a.F:
		return plainBytes(2, oneNaN)
	case a.Kind == impl.ItFloat:
		return plainBytes(2, math.Float64bits(a.F))
	}
	return append([]byte{3}, a.T...)
}

// laid lays any numbers, and any bytes as key and value, as a tuple's bytes.
func laid(xmin uint32, xmax uint32, key []byte, value []byte) []byte {
	b := binary.LittleEndian.AppendUint32(nil, xmin)
	b = binary.LittleEndian.AppendUint32(b, xmax)
	b = append(append(b, byte(len(key))), key...)
	return append(append(b, byte(len(value))), value...)
}

func plainTuple(t impl.Tuple) []byte {
	return laid(uint32(t.Xmin), uint32(t.Xmax), plainKey(t.Key), plainValue(t.Value))
}

// plainTupleRead reads a tuple from its bytes front to back, as the document's words go.
func plainTupleRead(b []byte) (impl.Tuple, bool) {
	number := func() (int, bool) {
		if len(b) < 4 {
			return 0, false
		}
		n := int(binary.LittleEndian.Uint32(b))
		b = b[4:]
		return n, true
	}
	part := func() ([]byte, bool) {
		if len(b) == 0 || len(b) < 1+int(b[0]) {
			return nil, false
		}
		p := b[1 : 1+int(b[0])]
		b = b[1+int(b[0]):]
		return p, true
	}
	xmin, ok1 := number()
	xmax, ok2 := number()
	keyPart, ok3 := part()
	valuePart, ok4 := part()
	key, ok5 := impl.KeyRead(keyPart)
	value, ok6 := impl.ValueRead(valuePart)
	if !ok1 || !ok2 || !ok3 || !ok4 || !ok5 || !ok6 || len(b) != 0 || xmin < 1 || xmin > 400 || xmax > 400 {
		return impl.Tuple{}, false
	}
	return impl.Tuple{Xmin: xmin, Xmax: xmax, Key: key, Value: value}, true
}

func longText(c string) impl.Item {
	return textItem(strings.Repeat(c, 40))
}

// someKeys are a few keys of each kind.
func someKeys() []impl.Item {
	return []impl.Item{
		intItem(0), intItem(5), intItem(-1), intItem(math.MinInt), intItem(math.MaxInt),
		floatItem(0), floatItem(1.5), floatItem(-2), floatItem(math.Inf(-1)), floatItem(math.NaN()),
		textItem(""), textItem("a"), textItem("\x00"), textItem("\x09\x01\x80"), longText("k"), longText("\xFF"),
	}
}

// rightValues are items of each kind, a -0 among them, that may be a tuple's value.
func rightValues() []impl.Item {
	return append(risingKeys(), floatItem(minusNought()))
}

func oneTuple() impl.Tuple {
	return impl.Tuple{Xmin: 7, Xmax: 9, Key: intItem(5), Value: textItem("ab")}
}

// oneTupleOfEach is a right tuple for each two kinds of key and value.
func oneTupleOfEach() []impl.Tuple {
	kinds := []impl.Item{intItem(77), floatItem(-1.25), textItem("some")}
	var l []impl.Tuple
	for i, key := range kinds {
		for j, value := range kinds {
			l = append(l, impl.Tuple{Xmin: 1 + 100*i, Xmax: 130 * j, Key: key, Value: value})
		}
	}
	return l
}

// rightTuples are tuples that are as the chapter wants them, at its limits too.
func rightTuples() []impl.Tuple {
	l := oneTupleOfEach()
	for _, xmin := range []int{1, 2, 255, 256, 257, 399, 400} {
		for _, xmax := range []int{0, 1, 2, 255, 256, 257, 399, 400} {
			l = append(l, impl.Tuple{Xmin: xmin, Xmax: xmax, Key: textItem("k"), Value: intItem(xmin - xmax)})
		}
	}
	for _, key := range risingKeys() {
		l = append(l, impl.Tuple{Xmin: 3, Key: key, Value: textItem("v")})
	}
	for i, value := range rightValues() {
		for _, key := range someKeys() {
			l = append(l, impl.Tuple{Xmin: 1 + i*4, Xmax: 400 - i*4, Key: key, Value: value})
		}
	}
	return append(l, impl.Tuple{Xmin: 400, Xmax: 400, Key: longText("k"), Value: longText("v")})
}

// noKeys are items that are no keys; some of them are values.
func noKeys() []impl.Item {
	return append(wrongItems(), impl.Item{}, impl.Item{T: []byte{}}, floatItem(minusNought()))
}

func noValues() []impl.Item {
	return append(wrongItems(), impl.Item{}, impl.Item{T: []byte{}})
}

// wrongTuple is a tuple that is not as the chapter wants it.
type wrongTuple struct {
	name string
	t    impl.Tuple
}

// wrongTuples are tuples each of which is wrong in one field alone.
func wrongTuples() []wrongTuple {
	l := []wrongTuple{{"zero value", impl.Tuple{}}}
	for _, right := range oneTupleOfEach() {
		for _, n := range past([2]int{1, 400}) {
			c := right
			c.Xmin = n
			l = append(l, wrongTuple{"Xmin", c})
		}
		for _, n := range past([2]int{0, 400}) {
			c := right
			c.Xmax = n
			l = append(l, wrongTuple{"Xmax", c})
		}
		for _, a := range noKeys() {
			c := right
			c.Key = a
			l = append(l, wrongTuple{"Key", c})
		}
		for _, a := range noValues() {
			c := right
			c.Value = a
			l = append(l, wrongTuple{"Value", c})
		}
	}
	return l
}

func wantTuple(t *testing.T, name string, b []byte, want impl.Tuple) {
	t.Helper()
	if got, ok := impl.TupleRead(b); !ok || !sameTuple(got, want) {
		t.Errorf("%s: TupleRead(%x) = %v, %t, want %v", name, b, got, ok, want)
	}
}

// wantNoTuple looks at the false, and that the zero value stands beside it.
func wantNoTuple(t *testing.T, name string, b []byte) {
	t.Helper()
	if got, ok := impl.TupleRead(b); ok || !sameTuple(got, impl.Tuple{}) {
		t.Errorf("%s: TupleRead(%d bytes, %x) = %v, %t, want none", name, len(b), b[:min(len(b), 100)], got, ok)
	}
}
