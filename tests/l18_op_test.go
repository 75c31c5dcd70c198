package tests

import (
	"fmt"
	"math"
	"slices"
	"strings"
	"testing"

	"loop.example/g00252/impl"
)

// opWithText is an op with zero in all that its kind does not need, and its text.
type opWithText struct {
	text string
	o    impl.Op
}

func textsOfOps() []opWithText {
	long, key := "t"+times("6b", 40), longText("k")
	kept := slices.Repeat([]bool{true}, mostWaiting)
	return []opWithText{
		{"begin 0 0", impl.Op{Kind: opBegin}},
		{"begin 7 1", impl.Op{Kind: opBegin, Seat: 7, Level: 1}},
		{"get 0 i5", impl.Op{Kind: opGet, Key: intItem(5)}},
		{"get 7 t", impl.Op{Kind: opGet, Seat: 7, Key: textItem("")}},
		{"get 3 f8000000000000000", impl.Op{Kind: opGet, Seat: 3, Key: floatItem(minusNought())}},
		{"get 3 f7ff8000000000000", impl.Op{Kind: opGet, Seat: 3, Key: floatItem(math.NaN())}},
		{"put 0 i5 t61", impl.Op{Kind: opPut, Key: intItem(5), Value: textItem("a")}},
		{"put 7 " + long + " " + long, impl.Op{Kind: opPut, Seat: 7, Key: key, Value: key}},
		{"put 1 f8000000000000000 f8000000000000000", impl.Op{Kind: opPut, Seat: 1, Key: floatItem(minusNought()), Value: floatItem(minusNought())}},
		{"delete 0 i-9223372036854775808", impl.Op{Kind: opDelete, Key: intItem(math.MinInt)}},
		{"delete 7 i9223372036854775807", impl.Op{Kind: opDelete, Seat: 7, Key: intItem(math.MaxInt)}},
		{"scan 0 i1 i2 0", impl.Op{Kind: opScan, Key: intItem(1), To: intItem(2)}},
		{"scan 7 t i0 50", impl.Op{Kind: opScan, Seat: 7, Key: textItem(""), To: intItem(0), N: 50}},
		{"scan 2 f8000000000000000 f8000000000000000 9", impl.Op{Kind: opScan, Seat: 2, Key: floatItem(minusNought()), To: floatItem(minusNought()), N: 9}},
		{"total 0 i1 i2", impl.Op{Kind: opTotal, Key: intItem(1), To: intItem(2)}},
		{"total 7 " + long + " f0000000000000000", impl.Op{Kind: opTotal, Seat: 7, Key: key, To: floatItem(0)}},
		{"commit 0", impl.Op{Kind: opCommit}},
		{"commit 7", impl.Op{Kind: opCommit, Seat: 7}},
		{"abort 0", impl.Op{Kind: opAbort}},
		{"abort 7", impl.Op{Kind: opAbort, Seat: 7}},
		{"vacuum", impl.Op{Kind: opVacuum}},
		{"checkpoint", impl.Op{Kind: opCheckpoint}},
		{"evict 0", impl.Op{Kind: opEvict}},
		{"evict 15", impl.Op{Kind: opEvict, N: 15}},
		{"fuse 0", impl.Op{Kind: opFuse}},
		{"fuse 9223372036854775807", impl.Op{Kind: opFuse, N: math.MaxInt}},
		{"crash", impl.Op{Kind: opCrash}},
		{"crash 0", impl.Op{Kind: opCrash, Keep: []bool{false}}},
		{"crash 1", impl.Op{Kind: opCrash, Keep: []bool{true}}},
		{"crash 101", impl.Op{Kind: opCrash, Keep: []bool{true, false, true}}},
		{"crash 0000", impl.Op{Kind: opCrash, Keep: make([]bool, 4)}},
		{"crash " + times("1", 600), impl.Op{Kind: opCrash, Keep: kept}},
		{"crash " + times("1", 599), impl.Op{Kind: opCrash, Keep: kept[1:]}},
		{"crash " + times("0", 600), impl.Op{Kind: opCrash, Keep: make([]bool, 600)}},
	}
}

// Beside its fields an op has something in all that its kind does not need.
func filled(o impl.Op) impl.Op {
	if o.Kind > opAbort {
		o.Seat = 99
	}
	if o.Kind != opBegin {
		o.Level = -5
	}
	if o.Kind != opScan && o.Kind != opEvict && o.Kind != opFuse {
		o.N = math.MinInt
	}
	if !hasKey(o.Kind) {
		o.Key = textItem("key")
	}
	if !hasTo(o.Kind) {
		o.To = impl.Item{Kind: 9, N: 4, T: make([]byte, 50)}
	}
	if o.Kind != opPut {
		o.Value = floatItem(1.5)
	}
	if o.Kind != opCrash {
		o.Keep = make([]bool, 700)
	}
	return o
}

func wantOpText(t *testing.T, name string, o impl.Op, want string) {
	t.Helper()
	if got := string(impl.OpText(o)); got != want {
		t.Errorf("%s: OpText of %v is %q, want %q", name, o, got, want)
	}
}

func wantOpRead(t *testing.T, name string, text string, want impl.Op, wantIs bool) {
	t.Helper()
	got, is := impl.OpRead([]byte(text))
	if is != wantIs || !sameOp(got, want) {
		t.Errorf("%s: OpRead of %.200q is %v, %t, want %v, %t", name, text, got, is, want, wantIs)
	}
}

// wantOpReadAsPlainly holds a line's op against the plain reading, and its text against the line.
func wantOpReadAsPlainly(t *testing.T, name string, text string) bool {
	t.Helper()
	want, isOne := plainOpRead(text)
	wantOpRead(t, name, text, want, isOne)
	if isOne {
		wantOpText(t, name, want, text)
	}
	return isOne
}

func TestOpsHaveTheirTexts(t *testing.T) {
	for _, of := range textsOfOps() {
		wantOpText(t, "an op", of.o, of.text)
		wantOpText(t, "an op with what it does not need", filled(of.o), of.text)
		wantOpRead(t, "an op", of.text, of.o, true)
	}
	if impl.MaxScript != mostScript {
		t.Errorf("MaxScript is %d", impl.MaxScript)
	}
}

func TestOpsWithWhatTheirKindDoesNotNeed(t *testing.T) {
	for _, kind := range rightKinds() {
		for _, wrong := range wrongItems() {
			o := filled(rightOp(kind))
			if !hasKey(kind) {
				o.Key = wrong
			}
			if !hasTo(kind) {
				o.To = wrong
			}
			if kind != opPut {
				o.Value = wrong
			}
			wantOpText(t, "all else wrong", o, plainOp(rightOp(kind)))
			wantOpRead(t, "all else zero", string(impl.OpText(o)), rightOp(kind), true)
		}
	}
}

// Each field at its least and its greatest, and one past both.
func TestTextsOfOpsByTheirFields(t *testing.T) {
	edges := []int{math.MinInt, -1 << 32, -2, -1, 0, 1, 2, 6, 7, 8, 9, 10, 14, 15, 16, 17, 49, 50, 51, 99, 100, 255, 256, 1 << 32, math.MaxInt - 1, math.MaxInt}
	for _, kind := range append(rightKinds(), 0, 14, -1, math.MinInt, math.MaxInt) {
		for _, n := range edges {
			for _, change := range []func(o *impl.Op){func(o *impl.Op) { o.Seat = n }, func(o *impl.Op) { o.Level = n }, func(o *impl.Op) { o.N = n }} {
				o := rightOp(kind)
				change(&o)
				wantOpText(t, "a number", o, plainOp(o))
				if plainOpOk(o) {
					wantOpRead(t, "a number", plainOp(o), plainNeeded(o), true)
				}
			}
		}
	}
	for _, n := range []int{0, 1, 2, 599, 600, 601, 1200} {
		for seed := range uint64(4) {
			o := impl.Op{Kind: opCrash, Keep: someKeep(n, seed)}
			text := "crash" + times(" ", min(n, 1)) + bitsOfKeep(o.Keep)
			if n > mostWaiting {
				wantOpText(t, "too long a Keep", o, "")
				wantOpRead(t, "too long a Keep", text, impl.Op{}, false)
				continue
			}
			wantOpText(t, "a Keep", o, text)
			wantOpRead(t, "a Keep", text, o, true)
		}
	}
}

func TestTextsOfOpsByTheirItems(t *testing.T) {
	for _, kind := range rightKinds() {
		for _, a := range slices.Concat(risingItems(), wrongItems(), []impl.Item{floatItem(minusNought())}) {
			for _, change := range []func(o *impl.Op){func(o *impl.Op) { o.Key = a }, func(o *impl.Op) { o.To = a }, func(o *impl.Op) { o.Value = a }} {
				o := rightOp(kind)
				change(&o)
				wantOpText(t, "an item", o, plainOp(o))
				if plainOpOk(o) {
					wantOpRead(t, "an item", plainOp(o), plainNeeded(o), true)
				}
			}
		}
	}
}

// A -0 is told as it stands, and read so, as a key too.
func TestAMinusNoughtAsAKey(t *testing.T) {
	for _, kind := range []int{opGet, opPut, opDelete, opScan, opTotal} {
		o := rightOp(kind)
		o.Key = floatItem(minusNought())
		got, is := impl.OpRead(impl.OpText(o))
		if !is || math.Float64bits(got.Key.F) != signBit || !strings.Contains(string(impl.OpText(o)), " f8000000000000000") {
			t.Errorf("%s of a -0: %v, %t, by its text %q", opNames()[kind], got, is, impl.OpText(o))
		}
	}
}

func TestWrongOpsHaveNoText(t *testing.T) {
	for _, o := range append(badOps(), impl.Op{Kind: opPut, Key: intItem(1), Value: impl.Item{}}, impl.Op{Kind: opTotal, Key: intItem(1), To: impl.Item{Kind: 4}}, impl.Op{Kind: opCrash, Keep: make([]bool, 65536)}) {
		wantOpText(t, "a wrong op", o, "")
	}
	for n, x := range someBits(20000, 5) {
		y := someBits(8, x)
		pick := func(i int, n int) int { return int(y[i] >> 20 % uint64(n)) }
		items := []impl.Item{{}, intItem(1), floatItem(minusNought()), {Kind: 4}, textItem("a"), {Kind: impl.ItText, T: make([]byte, 41)}}
		o := impl.Op{
			Kind: n%16 - 1, Seat: pick(1, 10) - 1, Level: pick(2, 4) - 1, N: []int{-1, 0, 15, 16, 50, 51}[pick(3, 6)],
			Key: items[pick(4, 6)], To: items[pick(5, 6)], Value: items[pick(6, 6)], Keep: make([]bool, 599+pick(7, 3)),
		}
		wantOpText(t, "drawn", o, plainOp(o))
	}
}

func TestLinesOfNoOp(t *testing.T) {
	lines := []string{
		"", " ", "  ", "?", "-", "0", "nothing", "order 0", "begins 0 0", "beg 0 0", "b", "\n", "\x00", "\xff", "é", "\ufffd", "i5",
		"begin", "begin ", "begin 0", "begin 0 ", "begin  0 0", "begin 0  0", " begin 0 0", "begin 0 0 ", "begin 0 0\n", "begin 0 0\r", "\nbegin 0 0", "begin\t0 0", "begin\u00a00 0", "begin 0 0 0", "begin 0 2", "begin 0 -1", "begin 8 0", "begin -1 0", "begin -0 0", "begin +1 0", "begin 00 0", "begin 01 0", "begin 0 00", "begin 0 01", "begin 0 1.0", "begin 0x1 0", "begin 1_0 0", "begin a 0", "begin 0 a", "begin 18446744073709551616 0", "begin 0 18446744073709551617", "begin00", "begin0 0", "begin,0,0", "BEGIN 0 0", "Begin 0 0", "bEGIN 0 0",
		"get", "get 0", "get 0 ", "get 0 -", "get 0 5", "get 0 i", "get 0 i-0", "get 0 i05", "get 0 +5", "get 0 i5 ", "get  0 i5", "get 0  i5", "get 0 i5 i5", "get i5 0", "get i5", "get 0 f0", "get 0 f7ff0000000000001", "get 0 f7FF0000000000000", "get 0 t6", "get 0 tA", "get 0 t6A", "get 0 t" + times("00", 41), "get 8 i5", "GET 0 i5", "get 0 I5", "get 0 i9223372036854775808", "get 0 ?",
		"put 0 i5", "put 0 i5 -", "put 0 - i5", "put 0 - -", "put 0 i5 i5 i5", "put 0 i5  i5", "put 0 i5 i5 ", "put 0 i5 ", "put 8 i5 i5", "put 0 i5 t" + times("00", 41), "put 0 i5=i5", "puts 0 i5 i5", "PUT 0 i5 i5", "put i5 i5 0",
		"delete 0", "delete 0 -", "delete 0 i5 i5", "delete 8 i5", "delete", "del 0 i5", "Delete 0 i5", "delete 0 i5 ",
		"scan 0 i1 i2", "scan 0 i1 i2 ", "scan 0 i1 i2 51", "scan 0 i1 i2 -1", "scan 0 i1 i2 00", "scan 0 i1 i2 05", "scan 0 i1 i2 +5", "scan 0 i1 i2 5 5", "scan 0 i1 5", "scan 0 i1 - 5", "scan 0 - i2 5", "scan 8 i1 i2 5", "scan 0 5 i1 i2", "scan 0 i1 i2 i5", "scan 0 i1 i2 4294967297", "scan 0 i1 i2 18446744073709551617", "Scan 0 i1 i2 5",
		"total 0 i1", "total 0 i1 -", "total 0 - i1", "total 0 i1 i2 5", "total 8 i1 i2", "total 0 i1 i2 ", "TOTAL 0 i1 i2",
		"commit", "commit ", "commit 8", "commit -1", "commit 0 ", "commit 0 0", "commit  0", "commit 00", "Commit 0", "commit 0\x00",
		"abort", "abort ", "abort 8", "abort -1", "abort 0 ", "abort 0 0", "abort  0", "abort 00", "ABORT 0",
		"vacuum ", " vacuum", "vacuum 0", "vacuum 1", "vacuum\n", "vacuum\r", "vacuum\t", "vacuums", "vacuu", "VACUUM", "Vacuum", "vacuum vacuum", "vacuum\x00", "vacuum\xff", "vac uum", "vacuu\u006d\u0301",
		"checkpoint ", " checkpoint", "checkpoint 0", "check point", "CHECKPOINT", "checkpoint\n",
		"evict", "evict ", "evict 16", "evict -1", "evict 00", "evict 015", "evict +5", "evict 5 ", "evict 5 5", "evict  5", "evict i5", "evict 256", "evict 4294967296", "evict 18446744073709551616",
		"fuse", "fuse ", "fuse -1", "fuse -0", "fuse 00", "fuse 05", "fuse +5", "fuse 5 ", "fuse 5 5", "fuse  5", "fuse 9223372036854775808", "fuse 18446744073709551616", "fuse " + times("9", 40), "fuse 1e3", "fuse 0x5", "fuse 1_000",
		"crash ", "crash  ", " crash", "crash  1", "crash 1 ", "crash 1 0", "crash 2", "crash 12", "crash 1x", "crash x", "crash -", "crash -1", "crash i1", "crash\t1", "crash 1\n", "crash\n", "crash 1\xff", "crash \xff", "crash \xff1", "crash é", "crash ０１", "crash 10\u0660", "crash t", "CRASH", "Crash 1", "crash1", "crash true", "crash " + times("1", 601), "crash " + times("0", 601), "crash " + times("01", 9000),
	}
	for _, line := range lines {
		wantOpRead(t, "no op", line, impl.Op{}, false)
		if _, isOne := plainOpRead(line); isOne {
			t.Errorf("%q is an op", line)
		}
	}
	if o, is := impl.OpRead(nil); is || !sameOp(o, impl.Op{}) {
		t.Errorf("OpRead of nil is %v, %t", o, is)
	}
}

// No line of an op is as long as a script may be, so that all lines of such lengths are none.
func TestLinesAsLongAsAScript(t *testing.T) {
	for _, n := range []int{mostScript - 1, mostScript, mostScript + 1, 2 * mostScript, 1000000} {
		for _, start := range []string{"vacuum", "crash ", "crash 1", "get 0 t", "get 0 i1", "fuse 1", "put 0 i1 t", "", "\xff", "begin 0 0"} {
			for _, fill := range []string{" ", "0", "1", "a", "\n", "\xff", "\x00", " 0"} {
				line := (start + times(fill, n))[:n]
				wantOpRead(t, fmt.Sprint("of ", n, " bytes"), line, impl.Op{}, false)
			}
		}
	}
}

func TestAlteredLines(t *testing.T) {
	t.Parallel()
	count := 0
	for _, of := range textsOfOps() {
		if len(of.text) > 300 {
			continue
		}
		for _, other := range alteredTexts(of.text) {
			count += oneIf(wantOpReadAsPlainly(t, "altered", other))
		}
	}
	if count < 2000 {
		t.Errorf("%d of them are ops", count)
	}
}

// Lines of words each of which may stand somewhere in a line.
func TestLinesOfDrawnWords(t *testing.T) {
	t.Parallel()
	words := slices.Concat(opNames(), []string{"", "0", "1", "7", "8", "-1", "00", "15", "16", "50", "51", "-", "i5", "i-5", "i05", "f3ff0000000000000", "f8000000000000000", "f0", "t", "t61", "t6", "101", "é", "Get", "9223372036854775807", "9223372036854775808"})
	count := 0
	for _, x := range someBits(200000, 1818) {
		y := someBits(8, x)
		pick := func(i int, n int) int { return int(y[i] >> 20 % uint64(n)) }
		line := []string{opNames()[pick(0, 14)]}
		for i := range pick(1, 5) {
			line = append(line, words[14*min(1, pick(7, 9))+pick(i+2, len(words)-14)])
		}
		count += oneIf(wantOpReadAsPlainly(t, "drawn", strings.Join(line, " ")))
	}
	if count < 2000 {
		t.Errorf("%d of them are ops", count)
	}
}

// drawnOp is an op that is OpOk, with something in what its kind does not need.
func drawnOp(seed uint64) impl.Op {
	x := someBits(10, seed)
	pick := func(i int, n int) int { return int(x[i] >> 20 % uint64(n)) }
	item := func(i int) impl.Item {
		switch pick(i, 6) {
		case 0:
			return intItem(int(x[i]) >> (x[i] % 64))
		case 1:
			return floatItem(math.Float64frombits(x[i]))
		case 2:
			return textItem(string(someBytes(pick(i, 41), x[i])))
		}
		return rightValues()[pick(i, len(rightValues()))]
	}
	o := impl.Op{
		Kind: pick(0, 13) + 1, Seat: pick(1, 8), Level: pick(2, 2), N: pick(3, 51),
		Key: item(4), To: item(5), Value: item(6), Keep: someKeep(pick(7, 601), x[8]),
	}
	switch o.Kind {
	case opEvict:
		o.N %= 16
	case opFuse:
		o.N = int(x[3] >> (1 + x[9]%63))
	}
	return o
}

func TestDrawnOpsComeBack(t *testing.T) {
	t.Parallel()
	texts := map[string]impl.Op{}
	for seed := range uint64(20000) {
		o := drawnOp(seed)
		if !plainOpOk(o) {
			t.Fatalf("%v is not OpOk", o)
		}
		text := plainOp(o)
		wantOpText(t, "drawn", o, text)
		wantOpRead(t, "drawn", text, plainNeeded(o), true)
		if other, isThere := texts[text]; isThere && !sameOp(other, plainNeeded(o)) {
			t.Errorf("%v and %v have one text %q", other, o, text)
		}
		texts[text] = plainNeeded(o)
	}
}

// Whatever bytes are read as an op are its text: so no two are read as one op.
func TestNoTwoTextsAreReadAsOneOp(t *testing.T) {
	t.Parallel()
	read := map[string]string{}
	ask := func(text string) {
		o, is := impl.OpRead([]byte(text))
		if !is {
			return
		}
		wantOpText(t, "read", o, text)
		if other, isThere := read[plainOp(o)]; isThere && other != text {
			t.Errorf("%q and %q are read as one op", other, text)
		}
		read[plainOp(o)] = text
	}
	for seed := range uint64(150) {
		text := plainOp(drawnOp(seed))
		text = text[:min(len(text), 60)]
		ask(text)
		for _, other := range alteredTexts(text) {
			ask(other)
		}
	}
	for _, x := range someBits(150000, 99) {
		b := someBytes(int(x>>20%12), x)
		for i := range b {
			b[i] = "begtcrash vum01 2if-"[int(b[i])%20]
		}
		ask(string(b))
	}
	if len(read) < 500 {
		t.Errorf("%d of them are ops", len(read))
	}
}
