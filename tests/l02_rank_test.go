package tests

import (
	"math"
	"testing"

	"loop.example/g00252/impl"
)

// wantNoFloat holds where a rank is the rank of no float.
func wantNoFloat(t *testing.T, rank uint64) {
	t.Helper()
	if f, ok := impl.FloatUnrank(rank); ok || math.Float64bits(f) != 0 {
		t.Errorf("FloatUnrank(%#x) = %g (bits %#x), %t, want +0, false", rank, f, math.Float64bits(f), ok)
	}
}

// wantUnrank holds where a rank gives the float back.
func wantUnrank(t *testing.T, rank uint64, want float64) {
	t.Helper()
	if f, ok := impl.FloatUnrank(rank); !ok || !sameFloat(f, want) {
		t.Errorf("FloatUnrank(%#x) = %g, %t, want %g, true", rank, f, ok, want)
	}
}

func TestRanksOfKnownFloats(t *testing.T) {
	for _, c := range []struct {
		f    float64
		rank uint64
	}{
		{math.Inf(-1), 0x000FFFFFFFFFFFFF},
		{-math.MaxFloat64, 0x0010000000000000},
		{-2, 0x3FFFFFFFFFFFFFFF},
		{-1, 0x400FFFFFFFFFFFFF},
		{-0x1p-1022, 0x7FEFFFFFFFFFFFFF},
		{-0x0.fffffffffffffp-1022, 0x7FF0000000000000},
		{-math.SmallestNonzeroFloat64, 0x7FFFFFFFFFFFFFFE},
		{0, 0x8000000000000000},
		{math.SmallestNonzeroFloat64, 0x8000000000000001},
		{0x0.fffffffffffffp-1022, 0x800FFFFFFFFFFFFF},
		{0x1p-1022, 0x8010000000000000},
		{1, 0xBFF0000000000000},
		{2, 0xC000000000000000},
		{math.MaxFloat64, 0xFFEFFFFFFFFFFFFF},
		{math.Inf(1), 0xFFF0000000000000},
		{math.NaN(), 0xFFFFFFFFFFFFFFFF},
	} {
		if got := impl.FloatRank(c.f); got != c.rank {
			t.Errorf("FloatRank(%g) = %#x, want %#x", c.f, got, c.rank)
		}
		wantUnrank(t, c.rank, c.f)
	}
}

func TestNoughtsHaveOneRank(t *testing.T) {
	for _, f := range []float64{0, minusNought()} {
		if got := impl.FloatRank(f); got != midRank {
			t.Errorf("FloatRank of the nought with bits %#x = %#x", math.Float64bits(f), got)
		}
	}
	f, ok := impl.FloatUnrank(midRank)
	if !ok || math.Float64bits(f) != 0 {
		t.Errorf("FloatUnrank(2^63) has the bits %#x, %t, want +0, true", math.Float64bits(f), ok)
	}
	wantNoFloat(t, ^signBit)
}

func TestNaNsHaveOneRank(t *testing.T) {
	for _, bits := range append(strangeNaNs(), oneNaN) {
		if got := impl.FloatRank(math.Float64frombits(bits)); got != lastRank {
			t.Errorf("FloatRank of the NaN %#x = %#x", bits, got)
		}
	}
	wantUnrank(t, lastRank, math.NaN())
	for _, bits := range append(strangeNaNs(), oneNaN) {
		if bits < signBit && bits+signBit != lastRank {
			wantNoFloat(t, bits+signBit)
		}
		if bits >= signBit {
			wantNoFloat(t, ^bits)
		}
	}
}

func TestRanksBeyondTheInfinities(t *testing.T) {
	above := infBits + signBit
	below := ^(infBits | signBit)
	for far := range uint64(100) {
		wantNoFloat(t, above+1+far)
		wantNoFloat(t, below-1-far)
		wantNoFloat(t, far)
		wantNoFloat(t, lastRank-1-far)
	}
	wantUnrank(t, above, math.Inf(1))
	wantUnrank(t, below, math.Inf(-1))
	wantUnrank(t, above-1, math.MaxFloat64)
	wantUnrank(t, below+1, -math.MaxFloat64)
}

func TestRanksNextToTheNoughts(t *testing.T) {
	for far := range uint64(100) {
		wantUnrank(t, midRank+1+far, math.Float64frombits(1+far))
		wantUnrank(t, midRank-2-far, math.Float64frombits(signBit|(1+far)))
	}
}

func TestRanksComeBack(t *testing.T) {
	for _, f := range rising() {
		wantUnrank(t, impl.FloatRank(f), f)
	}
	for _, bits := range someBits(5000, 3) {
		f := math.Float64frombits(bits)
		wantUnrank(t, impl.FloatRank(f), f)
		if g, ok := impl.FloatUnrank(bits); ok && impl.FloatRank(g) != bits {
			t.Errorf("FloatRank(FloatUnrank(%#x)) = %#x", bits, impl.FloatRank(g))
		}
	}
}

// From the rank of the one infinity up to that of the other, only that of -0 is left out.
func TestWhichRanksThereAre(t *testing.T) {
	for _, rank := range someBits(5000, 4) {
		_, ok := impl.FloatUnrank(rank)
		want := rank >= 0x000FFFFFFFFFFFFF && rank <= 0xFFF0000000000000
		if ok != want {
			t.Errorf("FloatUnrank(%#x): %t, want %t", rank, ok, want)
		}
	}
}

func TestRanksRiseAsFloatsDo(t *testing.T) {
	l := rising()
	for i := 1; i < len(l); i++ {
		if impl.FloatRank(l[i-1]) >= impl.FloatRank(l[i]) {
			t.Errorf("the rank of %g is not less than that of %g", l[i-1], l[i])
		}
	}
	bits := someBits(5000, 5)
	for i := 1; i < len(bits); i++ {
		a, b := math.Float64frombits(bits[i-1]), math.Float64frombits(bits[i])
		if a != a || b != b {
			continue
		}
		if (a < b) != (impl.FloatRank(a) < impl.FloatRank(b)) || (b < a) != (impl.FloatRank(b) < impl.FloatRank(a)) {
			t.Errorf("the ranks of %g and %g do not stand as these do", a, b)
		}
	}
}

func wantOrder(t *testing.T, a float64, b float64, want int) {
	t.Helper()
	if got := impl.FloatCompare(a, b); got != want {
		t.Errorf("FloatCompare(%g, %g) = %d, want %d", a, b, got, want)
	}
}

func TestFloatCompareOfEachTwo(t *testing.T) {
	l := rising()
	for i, a := range l {
		for j, b := range l {
			want := 0
			if i < j {
				want = -1
			}
			if i > j {
				want = 1
			}
			wantOrder(t, a, b, want)
		}
	}
}

func TestFloatCompareOfNoughts(t *testing.T) {
	low, high := minusNought(), 0.0
	for _, a := range []float64{low, high} {
		for _, b := range []float64{low, high} {
			wantOrder(t, a, b, 0)
		}
		wantOrder(t, a, math.SmallestNonzeroFloat64, -1)
		wantOrder(t, math.SmallestNonzeroFloat64, a, 1)
		wantOrder(t, a, -math.SmallestNonzeroFloat64, 1)
		wantOrder(t, -math.SmallestNonzeroFloat64, a, -1)
	}
}

func TestFloatCompareOfNaNs(t *testing.T) {
	for _, bits := range append(strangeNaNs(), oneNaN) {
		a := math.Float64frombits(bits)
		for _, other := range append(strangeNaNs(), oneNaN) {
			wantOrder(t, a, math.Float64frombits(other), 0)
		}
		for _, f := range []float64{math.Inf(-1), -1, minusNought(), 0, 1, math.MaxFloat64, math.Inf(1)} {
			wantOrder(t, a, f, 1)
			wantOrder(t, f, a, -1)
		}
	}
}
