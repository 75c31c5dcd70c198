package tests

import (
	"fmt"
	"math"
	"slices"
	"testing"

	"loop.example/g00252/impl"
)

func wantOpOk(t *testing.T, name string, o impl.Op, want bool) {
	t.Helper()
	if got := impl.OpOk(o); got != want {
		t.Errorf("%s: OpOk of %s %v is %t, want %t", name, nameOf(opNames(), o.Kind), o, got, want)
	}
}

// rightOp has what its kind names, and zero in all else.
func rightOp(kind int) impl.Op {
	o := impl.Op{Kind: kind}
	switch kind {
	case opBegin:
		o.Seat, o.Level = 3, 1
	case opGet, opDelete:
		o.Seat, o.Key = 3, intItem(5)
	case opPut:
		o.Seat, o.Key, o.Value = 3, intItem(5), textItem("value")
	case opScan:
		o.Seat, o.Key, o.To, o.N = 3, intItem(5), textItem("to"), 7
	case opTotal:
		o.Seat, o.Key, o.To = 3, intItem(5), textItem("to")
	case opCommit, opAbort:
		o.Seat = 3
	case opEvict, opFuse:
		o.N = 7
	case opCrash:
		o.Keep = []bool{true, false}
	}
	return o
}

func rightKinds() []int {
	return upTo(opBegin, opCrash)
}

func hasKey(kind int) bool {
	return kind >= opGet && kind <= opTotal
}

func hasTo(kind int) bool {
	return kind == opScan || kind == opTotal
}

func TestNamesOfOpsAndReplies(t *testing.T) {
	for i, n := range []int{impl.OpBegin, impl.OpGet, impl.OpPut, impl.OpDelete, impl.OpScan, impl.OpTotal, impl.OpCommit, impl.OpAbort, impl.OpVacuum, impl.OpCheckpoint, impl.OpEvict, impl.OpFuse, impl.OpCrash} {
		if n != i+1 {
			t.Errorf("%s is %d", opNames()[i+1], n)
		}
	}
	for i, n := range []int{impl.RpDone, impl.RpNone, impl.RpWait, impl.RpBusy, impl.RpShut, impl.RpOpen, impl.RpBad, impl.RpConflict, impl.RpDeadlock, impl.RpSerial, impl.RpFull, impl.RpDown} {
		if n != i {
			t.Errorf("%s is %d", codeNames()[i], n)
		}
	}
	if impl.MaxSeats != mostSeats || impl.MaxOps != mostOps || impl.MaxRows != mostTaken {
		t.Errorf("MaxSeats, MaxOps and MaxRows are %d, %d, %d", impl.MaxSeats, impl.MaxOps, impl.MaxRows)
	}
}

func TestOpOkOfEachKind(t *testing.T) {
	for _, kind := range rightKinds() {
		wantOpOk(t, "a right op", rightOp(kind), true)
	}
	for _, kind := range []int{0, 14, 15, -1, -2, -13, 255, 256, 257, 269, 1 << 16, 1<<32 + 1, 1<<32 + 13, math.MinInt, math.MinInt + 1, math.MaxInt} {
		for _, right := range rightKinds() {
			o := rightOp(right)
			o.Kind = kind
			wantOpOk(t, "a kind that is none", o, false)
		}
	}
	wantOpOk(t, "the zero value", impl.Op{}, false)
}

func TestOpOkBySeat(t *testing.T) {
	for _, kind := range rightKinds() {
		o := rightOp(kind)
		for seat := range mostSeats {
			o.Seat = seat
			wantOpOk(t, "a seat", o, true)
		}
		for _, seat := range []int{-1, mostSeats, -2, mostSeats + 1, -256, 256, 255, 1 << 32, -1 << 32, math.MinInt, math.MaxInt} {
			o.Seat = seat
			wantOpOk(t, "no seat", o, kind > opAbort)
		}
	}
}

func TestOpOkByLevel(t *testing.T) {
	for _, kind := range rightKinds() {
		o := rightOp(kind)
		for _, level := range []int{0, 1} {
			o.Level = level
			wantOpOk(t, "a Level", o, true)
		}
		for _, level := range []int{2, -1, 3, -2, 256, 257, 1 << 32, 1<<32 + 1, math.MinInt, math.MaxInt} {
			o.Level = level
			wantOpOk(t, "no Level", o, kind != opBegin)
		}
	}
}

func TestOpOkByKey(t *testing.T) {
	for _, kind := range rightKinds() {
		o := rightOp(kind)
		for _, key := range append(risingKeys(), floatItem(minusNought())) {
			o.Key = key
			wantOpOk(t, "a key", o, true)
		}
		for _, key := range noValues() {
			o.Key = key
			wantOpOk(t, "no key", o, !hasKey(kind))
		}
	}
}

func TestOpOkByTo(t *testing.T) {
	for _, kind := range rightKinds() {
		o := rightOp(kind)
		for _, key := range append(risingKeys(), floatItem(minusNought())) {
			o.To = key
			wantOpOk(t, "a key as To, be it ahead of Key", o, true)
		}
		for _, key := range noValues() {
			o.To = key
			wantOpOk(t, "no key as To", o, !hasTo(kind))
		}
	}
}

func TestOpOkByValue(t *testing.T) {
	for _, kind := range rightKinds() {
		o := rightOp(kind)
		for _, value := range rightValues() {
			o.Value = value
			wantOpOk(t, "a value", o, true)
		}
		for _, value := range noValues() {
			o.Value = value
			wantOpOk(t, "no value", o, kind != opPut)
		}
	}
}

func TestOpOkByN(t *testing.T) {
	for _, kind := range rightKinds() {
		for _, n := range []int{math.MinInt, -1 << 32, -256, -2, -1, 0, 1, 2, 14, 15, 16, 17, 49, 50, 51, 52, 255, 256, 600, 601, 1 << 32, math.MaxInt} {
			o := rightOp(kind)
			o.N = n
			want := true
			switch kind {
			case opScan:
				want = n >= 0 && n <= 50
			case opEvict:
				want = n >= 0 && n <= 15
			case opFuse:
				want = n >= 0
			}
			wantOpOk(t, "an N", o, want)
		}
	}
}

func TestOpOkByKeep(t *testing.T) {
	for _, kind := range rightKinds() {
		for _, n := range []int{0, 1, 599, 600, 601, 602, 856, 1200, 65536} {
			o := rightOp(kind)
			o.Keep = make([]bool, n)
			wantOpOk(t, fmt.Sprint("Keep of ", n), o, kind != opCrash || n <= 600)
			o.Keep = slices.Repeat([]bool{true}, n)
			wantOpOk(t, fmt.Sprint("Keep of ", n), o, kind != opCrash || n <= 600)
		}
	}
}

// What a kind does not name is set to what no kind would take.
func TestOpOkDoesNotLookAtWhatAKindDoesNotName(t *testing.T) {
	for _, kind := range rightKinds() {
		for _, wrong := range wrongItems() {
			o := rightOp(kind)
			if kind > opAbort {
				o.Seat = -1
			}
			if kind != opBegin {
				o.Level = 9
			}
			if kind != opScan && kind != opEvict && kind != opFuse {
				o.N = -1
			}
			if !hasKey(kind) {
				o.Key = wrong
			}
			if !hasTo(kind) {
				o.To = wrong
			}
			if kind != opPut {
				o.Value = wrong
			}
			if kind != opCrash {
				o.Keep = make([]bool, 700)
			}
			wantOpOk(t, "all else wrong", o, true)
		}
	}
}

// Each two wrong things beside each other are no better than one.
func TestOpOkIsAsTheDocumentSays(t *testing.T) {
	items := []impl.Item{{}, intItem(1), floatItem(minusNought()), {Kind: 4}, textItem("a"), {Kind: impl.ItText, T: make([]byte, 41)}}
	count := 0
	for n, x := range someBits(20000, 4) {
		y := someBits(8, x)
		pick := func(i int, n int) int { return int(y[i] >> 20 % uint64(n)) }
		o := impl.Op{
			Kind: n%16 - 1, Seat: pick(1, 10) - 1, Level: pick(2, 4) - 1, N: []int{-1, 0, 15, 16, 50, 51}[pick(3, 6)],
			Key: items[pick(4, 6)], To: items[pick(5, 6)], Value: items[pick(6, 6)], Keep: make([]bool, 599+pick(7, 3)),
		}
		wantOpOk(t, "drawn", o, plainOpOk(o))
		count += oneIf(plainOpOk(o))
	}
	if count < 2000 || count > 18000 {
		t.Errorf("%d of them are OpOk", count)
	}
}
