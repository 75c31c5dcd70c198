package tests

import (
	"bytes"
	"math"
	"testing"

	"loop.example/g00252/impl"
)

func TestTupleBytesByteByByte(t *testing.T) {
	for _, c := range []struct {
		t impl.Tuple
		b string
	}{
		{impl.Tuple{Xmin: 1, Key: intItem(5), Value: textItem("a")},
			"\x01\x00\x00\x00" + "\x00\x00\x00\x00" + "\x09" + "\x01\x80\x00\x00\x00\x00\x00\x00\x05" + "\x02" + "\x03a"},
		{impl.Tuple{Xmin: 0x0102, Xmax: 0x0190, Key: textItem("key"), Value: intItem(-1)},
			"\x02\x01\x00\x00" + "\x90\x01\x00\x00" + "\x04" + "\x03key" + "\x09" + "\x01\x7F\xFF\xFF\xFF\xFF\xFF\xFF\xFF"},
		{impl.Tuple{Xmin: 400, Xmax: 255, Key: floatItem(1), Value: floatItem(1)},
			"\x90\x01\x00\x00" + "\xFF\x00\x00\x00" + "\x09" + "\x02\xBF\xF0\x00\x00\x00\x00\x00\x00" + "\x09" + "\x02\x3F\xF0\x00\x00\x00\x00\x00\x00"},
		{impl.Tuple{Xmin: 255, Xmax: 1, Key: floatItem(-1), Value: floatItem(-1)},
			"\xFF\x00\x00\x00" + "\x01\x00\x00\x00" + "\x09" + "\x02\x40\x0F\xFF\xFF\xFF\xFF\xFF\xFF" + "\x09" + "\x02\xBF\xF0\x00\x00\x00\x00\x00\x00"},
		{impl.Tuple{Xmin: 256, Xmax: 256, Key: floatItem(0), Value: floatItem(minusNought())},
			"\x00\x01\x00\x00" + "\x00\x01\x00\x00" + "\x09" + "\x02\x80\x00\x00\x00\x00\x00\x00\x00" + "\x09" + "\x02\x80\x00\x00\x00\x00\x00\x00\x00"},
		{impl.Tuple{Xmin: 2, Xmax: 3, Key: floatItem(math.NaN()), Value: floatItem(math.NaN())},
			"\x02\x00\x00\x00" + "\x03\x00\x00\x00" + "\x09" + "\x02\xFF\xFF\xFF\xFF\xFF\xFF\xFF\xFF" + "\x09" + "\x02\x7F\xF8\x00\x00\x00\x00\x00\x00"},
		{impl.Tuple{Xmin: 9, Key: textItem(""), Value: textItem("")},
			"\x09\x00\x00\x00" + "\x00\x00\x00\x00" + "\x01" + "\x03" + "\x01" + "\x03"},
	} {
		if got := impl.TupleBytes(c.t); string(got) != c.b {
			t.Errorf("TupleBytes(%v) = %x, want %x", c.t, got, c.b)
		}
		wantTuple(t, "byte by byte", []byte(c.b), c.t)
	}
}

func TestTupleBytesAreLaidAsTold(t *testing.T) {
	for _, a := range rightTuples() {
		got := impl.TupleBytes(a)
		if !bytes.Equal(got, plainTuple(a)) {
			t.Fatalf("TupleBytes(%v) = %x, want %x", a, got, plainTuple(a))
		}
		want := bytes.Join([][]byte{
			impl.PutNum(a.Xmin, 4), impl.PutNum(a.Xmax, 4),
			impl.PutNum(len(impl.KeyBytes(a.Key)), 1), impl.KeyBytes(a.Key),
			impl.PutNum(len(impl.ValueBytes(a.Value)), 1), impl.ValueBytes(a.Value),
		}, nil)
		if !bytes.Equal(got, want) {
			t.Fatalf("TupleBytes(%v) = %x, which are not made of the chapters' bytes", a, got)
		}
	}
}

func TestTupleBytesOfWrongTuplesAreNone(t *testing.T) {
	for _, w := range wrongTuples() {
		if b := impl.TupleBytes(w.t); len(b) != 0 {
			t.Errorf("a wrong %s: TupleBytes(%v) = %x", w.name, w.t, b)
		}
	}
}

func TestTuplesHaveAtMostMaxTupleBytes(t *testing.T) {
	longest := 0
	for _, a := range rightTuples() {
		longest = max(longest, len(impl.TupleBytes(a)))
	}
	if longest != 92 || longest > impl.MaxTuple {
		t.Errorf("the longest tuple has %d bytes", longest)
	}
	a := impl.Tuple{Xmin: impl.MaxXid, Xmax: impl.MaxXid, Key: longText("k"), Value: longText("v")}
	if n := len(impl.TupleBytes(a)); n != impl.MaxTuple {
		t.Errorf("the longest key with the longest value has %d bytes", n)
	}
}

func TestTuplesOfTextsOfEachLength(t *testing.T) {
	for key := range impl.MaxText + 1 {
		for value := range impl.MaxText + 1 {
			a := impl.Tuple{Xmin: 1 + key, Xmax: value, Key: impl.Item{Kind: impl.ItText, T: someBytes(key, 60)}, Value: impl.Item{Kind: impl.ItText, T: someBytes(value, 61)}}
			b := impl.TupleBytes(a)
			if len(b) != 12+key+value || int(b[8]) != key+1 || int(b[10+key]) != value+1 {
				t.Errorf("texts of %d and %d bytes give %x", key, value, b)
			}
			wantTuple(t, "texts of each length", b, a)
		}
	}
}

func TestDifferentTuplesHaveDifferentBytes(t *testing.T) {
	seen := map[string]impl.Tuple{}
	for _, a := range rightTuples() {
		b := string(impl.TupleBytes(a))
		if other, ok := seen[b]; ok && !sameTuple(a, other) {
			t.Errorf("%v and %v have the same bytes", a, other)
		}
		seen[b] = a
	}
}
