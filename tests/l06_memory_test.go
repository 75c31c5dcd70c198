package tests

import (
	"bytes"
	"math"
	"testing"

	"loop.example/g00252/impl"
)

// guardedTuple is a tuple with marked room behind its texts.
type guardedTuple struct {
	t          impl.Tuple
	key, value guarded
}

func guardTuple(a impl.Tuple) guardedTuple {
	g := guardedTuple{t: a, key: guard(a.Key.T), value: guard(a.Value.T)}
	g.t.Key.T, g.t.Value.T = g.key.b, g.value.b
	return g
}

func (g guardedTuple) check(t *testing.T, name string) {
	t.Helper()
	g.key.check(t, name+", the key")
	g.value.check(t, name+", the value")
}

func (g guardedTuple) spoil() {
	spoil(g.key.b)
	spoil(g.value.b)
}

// memoryTuples are tuples of texts, some of which are refused.
func memoryTuples() []impl.Tuple {
	l := oneTupleOfEach()
	for _, n := range []int{0, 1, 7, 40, 41, 100} {
		for _, m := range []int{0, 1, 40, 41} {
			l = append(l, impl.Tuple{Xmin: 1, Key: impl.Item{Kind: impl.ItText, T: someBytes(n, 63)}, Value: impl.Item{Kind: impl.ItText, T: someBytes(m, 64)}})
		}
	}
	return append(l, impl.Tuple{Key: textItem("a"), Value: textItem("b")}, impl.Tuple{Xmin: 1, Key: textItem("a"), Value: impl.Item{T: []byte("b")}})
}

func TestTupleBytesIsNewMemory(t *testing.T) {
	for _, a := range memoryTuples() {
		g := guardTuple(a)
		impl.TupleOk(g.t)
		g.check(t, "TupleOk")
		b := impl.TupleBytes(g.t)
		g.check(t, "TupleBytes")
		want := bytes.Clone(b)
		spoil(b)
		g.check(t, "TupleBytes, its answer spoilt")
		again := impl.TupleBytes(g.t)
		g.spoil()
		if !bytes.Equal(again, want) {
			t.Errorf("TupleBytes(%v) shares memory with its argument or with another answer", a)
		}
	}
}

func TestTupleBytesOfTextsOnOneList(t *testing.T) {
	one := someBytes(60, 65)
	want := bytes.Clone(one)
	a := impl.Tuple{Xmin: 2, Xmax: 3, Key: impl.Item{Kind: impl.ItText, T: one[:30]}, Value: impl.Item{Kind: impl.ItText, T: one[10:45]}}
	b := impl.TupleBytes(a)
	if !bytes.Equal(one, want) || !bytes.Equal(b, plainTuple(a)) {
		t.Errorf("TupleBytes of texts on one list = %x", b)
	}
	wantTuple(t, "texts on one list", b, a)
}

func TestTupleReadIsNewMemory(t *testing.T) {
	for _, a := range memoryTuples() {
		if !impl.TupleOk(a) {
			continue
		}
		g := guard(plainTuple(a))
		got, ok := impl.TupleRead(g.b)
		g.check(t, "TupleRead")
		spoil(g.b)
		if !ok || !sameTuple(got, a) {
			t.Errorf("TupleRead of %v shares memory with its argument", a)
		}
		spoil(g.b)
		spoil(got.Key.T)
		if !bytes.Equal(got.Value.T, a.Value.T) {
			t.Errorf("the key and the value of %v share memory", a)
		}
		spoil(got.Value.T)
		g.check(t, "TupleRead, its answer spoilt")
		wantTuple(t, "again", g.b, a)
	}
}

func TestTupleReadLeavesWhatItRefuses(t *testing.T) {
	for _, a := range oneTupleOfEach() {
		whole := plainTuple(a)
		for cut := range len(whole) {
			g := guard(whole[:cut])
			impl.TupleRead(g.b)
			g.check(t, "TupleRead of a tuple that is cut")
		}
		for at := range len(whole) {
			b := bytes.Clone(whole)
			b[at] ^= 0xFF
			g := guard(b)
			impl.TupleRead(g.b)
			g.check(t, "TupleRead of a byte changed")
		}
		g := guard(append(whole, 0))
		impl.TupleRead(g.b)
		g.check(t, "TupleRead of one more")
	}
}

func TestTuplesNeverPanic(t *testing.T) {
	numbers := []int{math.MinInt, math.MinInt + 1, -1 << 32, -401, -1, 0, 1, 400, 401, 1 << 32, 1<<32 + 1, math.MaxInt - 1, math.MaxInt}
	items := append(someKeys(), noKeys()...)
	for i, n := range numbers {
		m := numbers[len(numbers)-1-i]
		for j, item := range items {
			other := items[(j*7+i)%len(items)]
			for _, a := range []impl.Tuple{
				{Xmin: n, Xmax: m, Key: item, Value: other},
				{Xmin: 1, Xmax: m, Key: item, Value: other},
				{Xmin: n, Xmax: 1, Key: other, Value: item},
				{Xmin: 1, Key: item, Value: intItem(1)},
				{Xmin: 1, Key: intItem(1), Value: item},
			} {
				quiet(t, "TupleOk", func() { impl.TupleOk(a) })
				quiet(t, "TupleBytes", func() { impl.TupleBytes(a) })
			}
		}
	}
	for n := range 300 {
		for _, c := range []byte{0, 1, 2, 3, 8, 9, 41, 92, 127, 128, 254, 255} {
			b := bytes.Repeat([]byte{c}, n)
			quiet(t, "TupleRead", func() { impl.TupleRead(b) })
			b = join([]byte{1, 0, 0, 0, 0, 0, 0, 0}, b)
			quiet(t, "TupleRead behind a head", func() { impl.TupleRead(b) })
			b = join([]byte{1, 0, 0, 0, 0, 0, 0, 0, 1, 3}, b)
			quiet(t, "TupleRead behind a key", func() { impl.TupleRead(b) })
		}
	}
	for _, n := range []int{65535, 65536, 65537, 1 << 20} {
		wantNoTuple(t, "many bytes 0", make([]byte, n))
		wantNoTuple(t, "many bytes 255", bytes.Repeat([]byte{255}, n))
		wantNoTuple(t, "many bytes 1", bytes.Repeat([]byte{1}, n))
	}
}
