package tests

import (
	"math"
	"slices"
	"strings"
	"testing"

	"loop.example/g00252/impl"
)

func wantReplyText(t *testing.T, name string, r impl.Reply, want string) {
	t.Helper()
	if got := string(impl.ReplyText(r)); got != want {
		t.Errorf("%s: ReplyText of %v is %q, want %q", name, r, got, want)
	}
}

func TestRepliesHaveTheirTexts(t *testing.T) {
	wrong := impl.Item{Kind: 9}
	for _, of := range []struct {
		r    impl.Reply
		want string
	}{
		{impl.Reply{}, "00 0 0 0 - 0000000000000000"},
		{impl.Reply{Kind: opBegin, N: 1}, "00 0 1 1 - 0000000000000000"},
		{impl.Reply{Seat: 7, Kind: opGet, Value: textItem("a")}, "00 7 2 0 t61 0000000000000000"},
		{impl.Reply{Seat: 7, Kind: opGet, Code: rpNone}, "01 7 2 0 - 0000000000000000"},
		{impl.Reply{Seat: 1, Kind: opPut, Code: rpSerial}, "09 1 3 0 - 0000000000000000"},
		{impl.Reply{Seat: 1, Kind: opPut, Code: rpFull}, "10 1 3 0 - 0000000000000000"},
		{impl.Reply{Seat: 1, Kind: opCrash, Code: rpDown}, "11 1 13 0 - 0000000000000000"},
		{impl.Reply{Seat: 1, Kind: opPut, Code: rpWait, N: 12}, "02 1 3 12 - 0000000000000000"},
		{impl.Reply{Code: 20}, "20 0 0 0 - 0000000000000000"},
		{impl.Reply{Code: 99}, "99 0 0 0 - 0000000000000000"},
		{impl.Reply{Code: 100}, "?? 0 0 0 - 0000000000000000"},
		{impl.Reply{Code: -1}, "?? 0 0 0 - 0000000000000000"},
		{impl.Reply{Code: math.MaxInt}, "?? 0 0 0 - 0000000000000000"},
		{impl.Reply{Code: math.MinInt}, "?? 0 0 0 - 0000000000000000"},
		{impl.Reply{Code: 256}, "?? 0 0 0 - 0000000000000000"},
		{impl.Reply{Code: 1<<32 + 5}, "?? 0 0 0 - 0000000000000000"},
		{impl.Reply{Seat: -1, Kind: -2, N: -3}, "00 -1 -2 -3 - 0000000000000000"},
		{impl.Reply{Seat: math.MinInt, Kind: math.MaxInt, N: math.MinInt}, "00 -9223372036854775808 9223372036854775807 -9223372036854775808 - 0000000000000000"},
		{impl.Reply{Seat: math.MaxInt, Kind: math.MinInt, N: math.MaxInt}, "00 9223372036854775807 -9223372036854775808 9223372036854775807 - 0000000000000000"},
		{impl.Reply{Value: wrong}, "00 0 0 0 ? 0000000000000000"},
		{impl.Reply{Value: impl.Item{Kind: impl.ItText, T: make([]byte, 41)}}, "00 0 0 0 ? 0000000000000000"},
		{impl.Reply{Value: impl.Item{N: 1}}, "00 0 0 0 ? 0000000000000000"},
		{impl.Reply{Value: floatItem(minusNought())}, "00 0 0 0 f8000000000000000 0000000000000000"},
		{impl.Reply{Total: 1.5, N: 2}, "00 0 0 2 - 3ff8000000000000"},
		{impl.Reply{Total: minusNought()}, "00 0 0 0 - 8000000000000000"},
		{impl.Reply{Total: math.Inf(1)}, "00 0 0 0 - 7ff0000000000000"},
		{impl.Reply{Total: math.Inf(-1)}, "00 0 0 0 - fff0000000000000"},
		{impl.Reply{Total: math.NaN()}, "00 0 0 0 - 7ff8000000000000"},
		{impl.Reply{Total: math.Float64frombits(signBit | infBits + 1)}, "00 0 0 0 - 7ff8000000000000"},
		{impl.Reply{Total: math.SmallestNonzeroFloat64}, "00 0 0 0 - 0000000000000001"},
		{impl.Reply{Rows: []impl.Pair{}}, "00 0 0 0 - 0000000000000000"},
		{impl.Reply{Kind: opScan, N: 1, Rows: []impl.Pair{{Key: intItem(-5), Value: textItem("")}}}, "00 0 5 1 - 0000000000000000 i-5=t"},
		{impl.Reply{Kind: opScan, N: 2, Rows: []impl.Pair{{Key: intItem(5), Value: textItem("a")}, {Key: textItem("="), Value: floatItem(1)}}}, "00 0 5 2 - 0000000000000000 i5=t61 t3d=f3ff0000000000000"},
		{impl.Reply{Rows: make([]impl.Pair, 2)}, "00 0 0 0 - 0000000000000000 -=- -=-"},
		{impl.Reply{Rows: []impl.Pair{{Key: wrong, Value: intItem(2)}, {Key: intItem(2), Value: wrong}, {Key: wrong, Value: wrong}, {Key: floatItem(minusNought())}}}, "00 0 0 0 - 0000000000000000 ?=i2 i2=? ?=? f8000000000000000=-"},
		{impl.Reply{Code: 7, Seat: 6, Kind: 5, N: 4, Value: intItem(3), Rows: []impl.Pair{{Key: intItem(2), Value: intItem(1)}}, Total: 2}, "07 6 5 4 i3 4000000000000000 i2=i1"},
	} {
		wantReplyText(t, "a reply", of.r, of.want)
	}
}

func TestCodesOfReplies(t *testing.T) {
	for code := -300; code <= 1300; code++ {
		r := impl.Reply{Code: code, Seat: code, Kind: code, N: code}
		wantReplyText(t, "a code", r, plainReply(r))
		if is := strings.HasPrefix(plainReply(r), "?? "); is != (code < 0 || code > 99) {
			t.Errorf("the code %d is told as %q", code, plainReply(r))
		}
	}
	for _, code := range risingNumbers() {
		r := impl.Reply{Code: code, Seat: code, Kind: code, N: code}
		wantReplyText(t, "a code", r, plainReply(r))
	}
}

func TestItemsInReplies(t *testing.T) {
	for _, a := range slices.Concat(risingItems(), wrongItems(), []impl.Item{floatItem(minusNought())}) {
		r := impl.Reply{Value: a, Total: a.F, Rows: []impl.Pair{{Key: a, Value: intItem(1)}, {Key: intItem(1), Value: a}, {Key: a, Value: a}}}
		wantReplyText(t, "an item", r, plainReply(r))
	}
}

func TestRepliesOfManyRows(t *testing.T) {
	items := slices.Concat(risingItems(), wrongItems())
	for _, n := range []int{0, 1, 2, 49, 50, 51, 52, 200, 5000} {
		var rows []impl.Pair
		for i := range n {
			rows = append(rows, impl.Pair{Key: items[i%len(items)], Value: items[i*7%len(items)]})
		}
		r := impl.Reply{Kind: opScan, N: n, Rows: rows}
		wantReplyText(t, "many rows", r, plainReply(r))
		if count := strings.Count(string(impl.ReplyText(r)), "="); count != n {
			t.Errorf("%d rows are told of %d", count, n)
		}
	}
}

func TestDrawnReplies(t *testing.T) {
	items := slices.Concat(risingItems(), wrongItems(), rightValues())
	for _, x := range someBits(20000, 1899) {
		y := someBits(12, x)
		pick := func(i int, n int) int { return int(y[i] >> 20 % uint64(n)) }
		r := impl.Reply{
			Seat: int(y[0]) >> (y[1] % 64), Kind: int(y[1]) >> (y[2] % 64), Code: pick(2, 120) - 10, N: int(y[3]) >> (y[4] % 64),
			Value: items[pick(4, len(items))], Total: math.Float64frombits(y[5]),
		}
		for i := range pick(6, 4) {
			r.Rows = append(r.Rows, impl.Pair{Key: items[pick(7+i, len(items))], Value: items[pick(8+i, len(items))]})
		}
		wantReplyText(t, "drawn", r, plainReply(r))
	}
}
