package tests

import (
	"math"
	"slices"
	"testing"
)

// The bits at which floats of one kind end and others begin.
const (
	signBit    uint64 = 1 << 63
	leastBits  uint64 = 1
	faintBits  uint64 = 0x000FFFFFFFFFFFFF // the greatest whose exponent is all noughts
	normalBits uint64 = 0x0010000000000000 // the one behind it
	oneBits    uint64 = 0x3FF0000000000000
	topBits    uint64 = 0x7FEFFFFFFFFFFFFF // the greatest that is no infinity
	infBits    uint64 = 0x7FF0000000000000
	oneNaN     uint64 = 9221120237041090560
)

const midRank uint64 = 1 << 63
const lastRank uint64 = math.MaxUint64

// plusBits are bits of floats from the least above 0 up to the infinity, rising.
func plusBits() []uint64 {
	return []uint64{
		leastBits, 2, 3, faintBits - 1, faintBits, normalBits, normalBits + 1,
		math.Float64bits(0.1), math.Float64bits(0.5), oneBits - 1, oneBits, oneBits + 1,
		math.Float64bits(2), math.Float64bits(1 << 53), math.Float64bits(1e300), topBits - 1, topBits, infBits,
	}
}

// strangeNaNs are bits of NaNs, none of them those that every NaN is told as.
func strangeNaNs() []uint64 {
	return []uint64{
		infBits + 1, infBits + 2, oneNaN - 1, oneNaN + 1, oneNaN + 2, signBit - 1, signBit - 2,
		signBit | infBits + 1, signBit | oneNaN - 1, signBit | oneNaN, signBit | oneNaN + 1,
		math.MaxUint64 - 1, math.MaxUint64,
	}
}

// rising are floats each of which stands ahead of the next, from the infinity below 0 up to NaN.
func rising() []float64 {
	var l []float64
	up := plusBits()
	for _, bits := range slices.Backward(up) {
		l = append(l, math.Float64frombits(signBit|bits))
	}
	l = append(l, 0)
	for _, bits := range up {
		l = append(l, math.Float64frombits(bits))
	}
	return append(l, math.Float64frombits(oneNaN))
}

// sameFloat holds floats against each other by their bits, all NaNs being one.
func sameFloat(a float64, b float64) bool {
	if a != a || b != b {
		return a != a && b != b
	}
	return math.Float64bits(a) == math.Float64bits(b)
}

func minusNought() float64 {
	return math.Copysign(0, -1)
}

// someBits are n numbers that look like none in particular; the seed fixes them.
func someBits(n int, seed uint64) []uint64 {
	l := make([]uint64, n)
	for i := range l {
		seed = seed*6364136223846793005 + 1442695040888963407
		high := seed >> 32
		seed = seed*6364136223846793005 + 1442695040888963407
		l[i] = high<<32 | seed>>32
	}
	return l
}

// guardedFloats is a copy of some floats with marked room behind its length.
type guardedFloats struct {
	l    []float64
	want []uint64
}

func guardFloats(l []float64) guardedFloats {
	all := slices.Clone(l)
	for range spareRoom {
		all = append(all, spareMark)
	}
	return guardedFloats{l: all[:len(l)], want: bitsOfAll(all)}
}

// check fails when the floats or the room behind them have other bits than they had.
func (g guardedFloats) check(t *testing.T, name string) {
	t.Helper()
	if !slices.Equal(bitsOfAll(g.l[:len(g.want)]), g.want) {
		t.Errorf("%s: wrote into its argument or behind it", name)
	}
}

func bitsOfAll(l []float64) []uint64 {
	bits := make([]uint64, len(l))
	for i, f := range l {
		bits[i] = math.Float64bits(f)
	}
	return bits
}
