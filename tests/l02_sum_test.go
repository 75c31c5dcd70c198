package tests

import (
	"math"
	"slices"
	"testing"

	"loop.example/g00252/impl"
)

func wantSum(t *testing.T, l []float64, want float64) {
	t.Helper()
	if got := impl.FloatSum(l); !sameFloat(got, want) {
		t.Errorf("FloatSum of %d floats (%v ..) = %g, want %g", len(l), l[:min(len(l), 6)], got, want)
	}
}

// plainSum adds one float after the other to +0.
func plainSum(l []float64) float64 {
	var sum float64
	for i := 0; i < len(l); i++ {
		sum = sum + l[i]
	}
	return sum
}

func TestSumsOfFewFloats(t *testing.T) {
	low := minusNought()
	wantSum(t, nil, 0)
	wantSum(t, []float64{}, 0)
	wantSum(t, []float64{0}, 0)
	wantSum(t, []float64{low}, 0)
	wantSum(t, []float64{low, low, low}, 0)
	wantSum(t, []float64{low, 1, low}, 1)
	wantSum(t, []float64{1, -1}, 0)
	wantSum(t, []float64{1.5}, 1.5)
	wantSum(t, []float64{-2.5}, -2.5)
	wantSum(t, []float64{1, 2, 0.5}, 3.5)
	wantSum(t, []float64{math.SmallestNonzeroFloat64, math.SmallestNonzeroFloat64}, math.Float64frombits(2))
	wantSum(t, []float64{math.SmallestNonzeroFloat64, -math.SmallestNonzeroFloat64}, 0)
}

func TestSumsWithInfinitiesAndNaNs(t *testing.T) {
	inf, nan := math.Inf(1), math.NaN()
	wantSum(t, []float64{inf}, inf)
	wantSum(t, []float64{-inf}, -inf)
	wantSum(t, []float64{inf, inf, 1}, inf)
	wantSum(t, []float64{1, -inf, math.MaxFloat64}, -inf)
	wantSum(t, []float64{inf, -inf}, nan)
	wantSum(t, []float64{-inf, inf}, nan)
	wantSum(t, []float64{inf, 1, -inf, 1}, nan)
	wantSum(t, []float64{nan}, nan)
	wantSum(t, []float64{1, nan, 1}, nan)
	wantSum(t, []float64{nan, inf}, nan)
	for _, bits := range strangeNaNs() {
		wantSum(t, []float64{1, math.Float64frombits(bits), 2}, nan)
	}
}

func TestSumsGoInTheirOrder(t *testing.T) {
	high := math.MaxFloat64
	wantSum(t, []float64{1e16, 1, -1e16}, 0)
	wantSum(t, []float64{1e16, -1e16, 1}, 1)
	wantSum(t, []float64{1, 1e16, -1e16}, 0)
	wantSum(t, []float64{1e16, 1, 1}, 1e16)
	wantSum(t, []float64{1, 1, 1e16}, 1e16+2)
	wantSum(t, []float64{high, high, -high}, math.Inf(1))
	wantSum(t, []float64{high, -high, high}, high)
	wantSum(t, []float64{high, high, -high, -high}, math.Inf(1))
	wantSum(t, []float64{0.1, 0.2, 0.3}, 0.6000000000000001)
	wantSum(t, []float64{0.3, 0.2, 0.1}, 0.6)
	wantSum(t, slices.Repeat([]float64{0.1}, 10), 0.9999999999999999)
}

func TestSumsOfManyFloats(t *testing.T) {
	wantSum(t, slices.Repeat([]float64{1}, impl.MaxSum), 1000)
	wantSum(t, slices.Repeat([]float64{0.1}, impl.MaxSum), 99.9999999999986)
	wantSum(t, slices.Repeat([]float64{0.1}, impl.MaxSum-1), 99.8999999999986)
	l := make([]float64, impl.MaxSum)
	for i, bits := range someBits(impl.MaxSum, 7) {
		l[i] = math.Ldexp(float64(int64(bits)), int(bits%60))
	}
	for n := range len(l) + 1 {
		wantSum(t, l[:n], plainSum(l[:n]))
	}
	back := slices.Clone(l)
	slices.Reverse(back)
	wantSum(t, back, plainSum(back))
	if plainSum(back) == plainSum(l) {
		t.Error("these floats do not show in which order they are added")
	}
}

func TestTooManyFloats(t *testing.T) {
	nan := math.NaN()
	for _, n := range []int{impl.MaxSum + 1, impl.MaxSum + 2, 2 * impl.MaxSum, 100 * impl.MaxSum} {
		wantSum(t, make([]float64, n), nan)
		wantSum(t, slices.Repeat([]float64{1}, n), nan)
	}
	if impl.MaxSum != 1000 {
		t.Errorf("MaxSum = %d", impl.MaxSum)
	}
	last := make([]float64, impl.MaxSum)
	last[impl.MaxSum-1] = 7
	wantSum(t, last, 7)
}

func TestSumsReadNothingBehindTheLength(t *testing.T) {
	l := slices.Repeat([]float64{1}, impl.MaxSum+1)
	wantSum(t, l[:3], 3)
	wantSum(t, l[:impl.MaxSum], impl.MaxSum)
	l[3] = math.NaN()
	wantSum(t, l[:3], 3)
	wantSum(t, l[:0], 0)
}

func TestSumsLeaveTheirArguments(t *testing.T) {
	lists := [][]float64{
		nil, {minusNought()}, {1, 2, 3}, {math.Inf(1), math.Inf(-1)}, rising(),
		make([]float64, impl.MaxSum), make([]float64, impl.MaxSum+1),
	}
	for _, bits := range strangeNaNs() {
		lists = append(lists, []float64{3, math.Float64frombits(bits), 1})
	}
	for _, l := range lists {
		g := guardFloats(l)
		first := impl.FloatSum(g.l)
		g.check(t, "FloatSum")
		if second := impl.FloatSum(g.l); !sameFloat(first, second) {
			t.Errorf("the same floats summed twice: %g and %g", first, second)
		}
	}
}

func TestFloatsNeverPanic(t *testing.T) {
	bits := append(append(plusBits(), strangeNaNs()...), 0, oneNaN, signBit, midRank-1, lastRank)
	for _, a := range bits {
		for _, sign := range []uint64{0, signBit} {
			f := math.Float64frombits(a ^ sign)
			quiet(t, "FloatBits", func() { impl.FloatBits(f) })
			quiet(t, "FloatOf", func() { impl.FloatOf(a ^ sign) })
			quiet(t, "FloatRank", func() { impl.FloatRank(f) })
			quiet(t, "FloatUnrank", func() { impl.FloatUnrank(a ^ sign) })
			quiet(t, "FloatSum", func() { impl.FloatSum([]float64{f, f}) })
			for _, b := range bits {
				quiet(t, "FloatCompare", func() { impl.FloatCompare(f, math.Float64frombits(b)) })
			}
		}
	}
	quiet(t, "FloatSum", func() { impl.FloatSum(make([]float64, 1<<20)) })
}
