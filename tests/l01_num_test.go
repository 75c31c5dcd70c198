package tests

import (
	"bytes"
	"math"
	"testing"

	"loop.example/g00252/impl"
)

// greatest is the greatest number that size bytes and an int both hold.
func greatest(size int) int {
	if size == 8 {
		return math.MaxInt
	}
	return 1<<(8*size) - 1
}

func TestPutNumLaysBytesLowFirst(t *testing.T) {
	for _, c := range []struct {
		n, size int
		want    []byte
	}{
		{0, 1, []byte{0}},
		{255, 1, []byte{255}},
		{1, 2, []byte{1, 0}},
		{256, 2, []byte{0, 1}},
		{0x030201, 3, []byte{1, 2, 3}},
		{0x030201, 4, []byte{1, 2, 3, 0}},
		{0x04030201, 4, []byte{1, 2, 3, 4}},
		{0x0504030201, 5, []byte{1, 2, 3, 4, 5}},
		{0x060504030201, 6, []byte{1, 2, 3, 4, 5, 6}},
		{0x07060504030201, 7, []byte{1, 2, 3, 4, 5, 6, 7}},
		{0x0807060504030201, 8, []byte{1, 2, 3, 4, 5, 6, 7, 8}},
		{math.MaxInt, 8, []byte{255, 255, 255, 255, 255, 255, 255, 127}},
	} {
		if got := impl.PutNum(c.n, c.size); !bytes.Equal(got, c.want) {
			t.Errorf("PutNum(%d, %d) = %v, want %v", c.n, c.size, got, c.want)
		}
	}
}

func TestNumsComeBack(t *testing.T) {
	for size := 1; size <= 8; size++ {
		top := greatest(size)
		for _, n := range []int{0, 1, 127, 128, 254, 255, top / 2, top/2 + 1, top - 1, top} {
			b := impl.PutNum(n, size)
			if len(b) != size {
				t.Fatalf("PutNum(%d, %d) has %d bytes", n, size, len(b))
			}
			for at := range 12 {
				in := join(bytes.Repeat([]byte{0xEE}, at), b, []byte{0xDD, 0xDD})
				if got, ok := impl.GetNum(in, at, size); got != n || !ok {
					t.Errorf("GetNum(PutNum(%d, %d)) at %d = %d, %t", n, size, at, got, ok)
				}
				if got, ok := impl.GetNum(in[:at+size], at, size); got != n || !ok {
					t.Errorf("GetNum(PutNum(%d, %d)) at %d at the end = %d, %t", n, size, at, got, ok)
				}
			}
		}
	}
}

func TestPutNumRefuses(t *testing.T) {
	for size := 1; size <= 8; size++ {
		for _, n := range []int{-1, -2, -256, math.MinInt, math.MinInt + 1} {
			if b := impl.PutNum(n, size); len(b) != 0 {
				t.Errorf("PutNum(%d, %d) = %v, want no bytes", n, size, b)
			}
		}
	}
	for size := 1; size <= 7; size++ {
		for _, n := range []int{greatest(size) + 1, greatest(size) + 2, math.MaxInt} {
			if b := impl.PutNum(n, size); len(b) != 0 {
				t.Errorf("PutNum(%d, %d) = %v, want no bytes", n, size, b)
			}
		}
	}
	for _, size := range []int{0, 9, 10, 16, 64, -1, -8, math.MinInt, math.MaxInt} {
		for _, n := range []int{0, 1, math.MaxInt, -1} {
			if b := impl.PutNum(n, size); len(b) != 0 {
				t.Errorf("PutNum(%d, %d) = %v, want no bytes", n, size, b)
			}
		}
	}
}

func wantNoNum(t *testing.T, b []byte, at int, size int) {
	t.Helper()
	if n, ok := impl.GetNum(b, at, size); n != 0 || ok {
		t.Errorf("GetNum(%v, %d, %d) = %d, %t, want 0, false", b, at, size, n, ok)
	}
}

func TestGetNumRefusesSizes(t *testing.T) {
	for _, b := range [][]byte{nil, {7}, bytes.Repeat([]byte{1}, 20), make([]byte, 20)} {
		for _, size := range []int{0, 9, 10, 16, -1, -8, math.MinInt, math.MinInt + 1, math.MaxInt} {
			for _, at := range []int{0, 1, len(b), -1, 8, math.MaxInt, math.MinInt} {
				wantNoNum(t, b, at, size)
			}
		}
	}
}

func TestGetNumRefusesPlaces(t *testing.T) {
	b := bytes.Repeat([]byte{1}, 12)
	for size := 1; size <= 8; size++ {
		for at := -10; at < 0; at++ {
			wantNoNum(t, b, at, size)
		}
		for at := len(b) - size + 1; at < len(b)+10; at++ {
			wantNoNum(t, b, at, size)
		}
		for near := range 10 {
			wantNoNum(t, b, math.MaxInt-near, size)
			wantNoNum(t, b, math.MinInt+near, size)
		}
		for short := range size {
			wantNoNum(t, b[:short], 0, size)
		}
		wantNoNum(t, nil, 0, size)
	}
}

func TestGetNumReadsNothingBehindTheLength(t *testing.T) {
	b := bytes.Repeat([]byte{1}, 16)[:4]
	wantNoNum(t, b, 0, 5)
	wantNoNum(t, b, 3, 2)
	wantNoNum(t, b, 4, 1)
}

func TestGetNumRefusesGreatNumbers(t *testing.T) {
	for _, b := range [][]byte{
		{0, 0, 0, 0, 0, 0, 0, 0x80},
		{1, 0, 0, 0, 0, 0, 0, 0x80},
		{255, 255, 255, 255, 255, 255, 255, 0x80},
		{0, 0, 0, 0, 0, 0, 0, 0xC0},
		{255, 255, 255, 255, 255, 255, 255, 255},
	} {
		wantNoNum(t, b, 0, 8)
		wantNoNum(t, join([]byte{3}, b, []byte{4}), 1, 8)
	}
	if n, ok := impl.GetNum([]byte{255, 255, 255, 255, 255, 255, 255, 127}, 0, 8); n != math.MaxInt || !ok {
		t.Errorf("the greatest int is read as %d, %t", n, ok)
	}
	if n, ok := impl.GetNum(bytes.Repeat([]byte{255}, 8), 0, 7); n != greatest(7) || !ok {
		t.Errorf("seven full bytes are read as %d, %t", n, ok)
	}
}

func TestNumsLeaveTheirArguments(t *testing.T) {
	for size := 1; size <= 8; size++ {
		g := guard(someBytes(12, uint64(size)))
		for at := -1; at <= 13; at++ {
			impl.GetNum(g.b, at, size)
		}
		g.check(t, "GetNum")
	}
}

func TestPutNumIsNewMemory(t *testing.T) {
	first := impl.PutNum(0x010203, 4)
	second := impl.PutNum(0x010203, 4)
	spoil(first)
	if !bytes.Equal(second, []byte{3, 2, 1, 0}) {
		t.Error("two answers of PutNum share memory")
	}
	if third := impl.PutNum(0x010203, 4); !bytes.Equal(third, []byte{3, 2, 1, 0}) {
		t.Error("a spoilt answer of PutNum shows in a later one")
	}
}

func TestNumsNeverPanic(t *testing.T) {
	numbers := []int{math.MinInt, math.MinInt + 1, -9, -1, 0, 1, 2, 3, 7, 8, 9, 255, 256, math.MaxInt - 8, math.MaxInt - 1, math.MaxInt}
	for _, b := range [][]byte{nil, {}, {1}, make([]byte, 8), make([]byte, 9), make([]byte, impl.MaxBytes+1)} {
		for _, x := range numbers {
			for _, size := range numbers {
				quiet(t, "PutNum", func() { impl.PutNum(x, size) })
				quiet(t, "GetNum", func() { impl.GetNum(b, x, size) })
			}
		}
	}
}

func TestGetNumTakesManyBytes(t *testing.T) {
	b := make([]byte, impl.MaxBytes+10)
	b[impl.MaxBytes+8] = 2
	if n, ok := impl.GetNum(b, impl.MaxBytes+8, 2); n != 2 || !ok {
		t.Errorf("behind MaxBytes: %d, %t", n, ok)
	}
}
