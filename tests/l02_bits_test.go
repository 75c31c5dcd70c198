package tests

import (
	"math"
	"testing"

	"loop.example/g00252/impl"
)

func TestFloatBitsOfKnownFloats(t *testing.T) {
	for _, c := range []struct {
		f    float64
		bits uint64
	}{
		{0, 0},
		{minusNought(), 0x8000000000000000},
		{1, 0x3FF0000000000000},
		{-1, 0xBFF0000000000000},
		{2, 0x4000000000000000},
		{-1.5, 0xBFF8000000000000},
		{0.1, 0x3FB999999999999A},
		{math.SmallestNonzeroFloat64, 1},
		{-math.SmallestNonzeroFloat64, 0x8000000000000001},
		{0x0.fffffffffffffp-1022, 0x000FFFFFFFFFFFFF},
		{-0x0.fffffffffffffp-1022, 0x800FFFFFFFFFFFFF},
		{0x1p-1022, 0x0010000000000000},
		{-0x1p-1022, 0x8010000000000000},
		{math.MaxFloat64, 0x7FEFFFFFFFFFFFFF},
		{-math.MaxFloat64, 0xFFEFFFFFFFFFFFFF},
		{math.Inf(1), 0x7FF0000000000000},
		{math.Inf(-1), 0xFFF0000000000000},
	} {
		if got := impl.FloatBits(c.f); got != c.bits {
			t.Errorf("FloatBits(%g) = %#x, want %#x", c.f, got, c.bits)
		}
		if got := impl.FloatOf(c.bits); !sameFloat(got, c.f) {
			t.Errorf("FloatOf(%#x) = %g, want %g", c.bits, got, c.f)
		}
	}
}

func TestAllNaNsHaveTheSameBits(t *testing.T) {
	inf := math.Inf(1)
	for _, f := range []float64{math.NaN(), -math.NaN(), inf - inf, 0 * inf, math.Sqrt(-1), math.Float64frombits(oneNaN)} {
		if got := impl.FloatBits(f); got != oneNaN {
			t.Errorf("FloatBits of the NaN %#x = %#x", math.Float64bits(f), got)
		}
	}
	for _, bits := range strangeNaNs() {
		if got := impl.FloatBits(math.Float64frombits(bits)); got != oneNaN {
			t.Errorf("FloatBits of the NaN %#x = %#x", bits, got)
		}
	}
}

func TestFloatOfBitsOfNaNs(t *testing.T) {
	for _, bits := range append(strangeNaNs(), oneNaN) {
		f := impl.FloatOf(bits)
		if f == f {
			t.Errorf("FloatOf(%#x) = %g, want NaN", bits, f)
		}
		if got := impl.FloatBits(f); got != oneNaN {
			t.Errorf("FloatBits(FloatOf(%#x)) = %#x", bits, got)
		}
	}
	for place := range 52 {
		for _, sign := range []uint64{0, signBit} {
			if f := impl.FloatOf(sign | infBits | 1<<place); f == f {
				t.Errorf("an infinity with the bit %d set is %g, want NaN", place, f)
			}
		}
	}
}

func TestBitsComeBack(t *testing.T) {
	for _, bits := range append(plusBits(), 0) {
		for _, sign := range []uint64{0, signBit} {
			f := math.Float64frombits(sign | bits)
			if got := impl.FloatOf(impl.FloatBits(f)); !sameFloat(got, f) {
				t.Errorf("FloatOf(FloatBits(%g)) = %g", f, got)
			}
			if got := impl.FloatBits(impl.FloatOf(sign | bits)); got != sign|bits {
				t.Errorf("FloatBits(FloatOf(%#x)) = %#x", sign|bits, got)
			}
		}
	}
	for _, bits := range someBits(5000, 2) {
		f := math.Float64frombits(bits)
		want := bits
		if f != f {
			want = oneNaN
		}
		if got := impl.FloatBits(impl.FloatOf(bits)); got != want {
			t.Errorf("FloatBits(FloatOf(%#x)) = %#x, want %#x", bits, got, want)
		}
		if got := impl.FloatOf(impl.FloatBits(f)); !sameFloat(got, f) {
			t.Errorf("FloatOf(FloatBits(%g)) = %g", f, got)
		}
	}
}
