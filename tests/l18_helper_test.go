package tests

import (
	"encoding/hex"
	"fmt"
	"math"
	"regexp"
	"slices"
	"strconv"
	"strings"
	"testing"

	"loop.example/g00252/impl"
)

// Chapter 18's limit as the document names it, in a number.
const mostScript = 20000

// plainBits are the 64 bits of a float in hexadecimal digits, those of every NaN being the same.
func plainBits(f float64) string {
	if f != f {
		return fmt.Sprintf("%016x", oneNaN)
	}
	return fmt.Sprintf("%016x", math.Float64bits(f))
}

// plainItem is an item's text as the document tells it; no bytes, where it is not ItemOk.
func plainItem(a impl.Item) string {
	switch {
	case !impl.ItemOk(a):
		return ""
	case a.Kind == impl.ItInt:
		return fmt.Sprintf("i%d", a.N)
	case a.Kind == impl.ItFloat:
		return "f" + plainBits(a.F)
	case a.Kind == impl.ItText:
		return fmt.Sprintf("t%x", a.T)
	}
	return "-"
}

// plainOp is an op's text as the document tells it; no bytes, where it is not OpOk.
func plainOp(o impl.Op) string {
	if !plainOpOk(o) {
		return ""
	}
	words := []any{opNames()[o.Kind]}
	switch o.Kind {
	case opBegin:
		words = append(words, o.Seat, o.Level)
	case opGet, opDelete:
		words = append(words, o.Seat, plainItem(o.Key))
	case opPut:
		words = append(words, o.Seat, plainItem(o.Key), plainItem(o.Value))
	case opScan:
		words = append(words, o.Seat, plainItem(o.Key), plainItem(o.To), o.N)
	case opTotal:
		words = append(words, o.Seat, plainItem(o.Key), plainItem(o.To))
	case opCommit, opAbort:
		words = append(words, o.Seat)
	case opEvict, opFuse:
		words = append(words, o.N)
	case opCrash:
		if len(o.Keep) > 0 {
			words = append(words, bitsOfKeep(o.Keep))
		}
	}
	return strings.TrimSuffix(fmt.Sprintln(words...), "\n")
}

func bitsOfKeep(keep []bool) string {
	text := ""
	for _, is := range keep {
		text += strconv.Itoa(oneIf(is))
	}
	return text
}

// plainNeeded is an op with zero in all that its kind does not need.
func plainNeeded(o impl.Op) impl.Op {
	need := impl.Op{Kind: o.Kind}
	if o.Kind <= opAbort {
		need.Seat = o.Seat
	}
	switch o.Kind {
	case opBegin:
		need.Level = o.Level
	case opGet, opDelete:
		need.Key = o.Key
	case opPut:
		need.Key, need.Value = o.Key, o.Value
	case opScan:
		need.Key, need.To, need.N = o.Key, o.To, o.N
	case opTotal:
		need.Key, need.To = o.Key, o.To
	case opEvict, opFuse:
		need.N = o.N
	case opCrash:
		need.Keep = o.Keep
	}
	return need
}

// plainReply is a reply's text as the document tells it.
func plainReply(r impl.Reply) string {
	item := func(a impl.Item) string {
		if !impl.ItemOk(a) {
			return "?"
		}
		return plainItem(a)
	}
	code := "??"
	if r.Code >= 0 && r.Code <= 99 {
		code = fmt.Sprintf("%02d", r.Code)
	}
	text := fmt.Sprintf("%s %d %d %d %s %s", code, r.Seat, r.Kind, r.N, item(r.Value), plainBits(r.Total))
	for _, pair := range r.Rows {
		text += " " + item(pair.Key) + "=" + item(pair.Value)
	}
	return text
}

const (
	keyForm  = `(i(?:0|-?[1-9][0-9]*)|f[0-9a-f]{16}|t(?:[0-9a-f]{2}){0,40})`
	itemForm = `(?:-|` + keyForm + `)`
)

var (
	itemWhole = regexp.MustCompile(`\A` + itemForm + `\z`)
	opWholes  = []*regexp.Regexp{
		opBegin:      regexp.MustCompile(`\Abegin ([0-7]) ([01])\z`),
		opGet:        regexp.MustCompile(`\Aget ([0-7]) ` + keyForm + `\z`),
		opPut:        regexp.MustCompile(`\Aput ([0-7]) ` + keyForm + ` ` + keyForm + `\z`),
		opDelete:     regexp.MustCompile(`\Adelete ([0-7]) ` + keyForm + `\z`),
		opScan:       regexp.MustCompile(`\Ascan ([0-7]) ` + keyForm + ` ` + keyForm + ` ([0-9]|[1-4][0-9]|50)\z`),
		opTotal:      regexp.MustCompile(`\Atotal ([0-7]) ` + keyForm + ` ` + keyForm + `\z`),
		opCommit:     regexp.MustCompile(`\Acommit ([0-7])\z`),
		opAbort:      regexp.MustCompile(`\Aabort ([0-7])\z`),
		opVacuum:     regexp.MustCompile(`\Avacuum\z`),
		opCheckpoint: regexp.MustCompile(`\Acheckpoint\z`),
		opEvict:      regexp.MustCompile(`\Aevict ([0-9]|1[0-5])\z`),
		opFuse:       regexp.MustCompile(`\Afuse (0|[1-9][0-9]*)\z`),
		opCrash:      regexp.MustCompile(`\Acrash(?: ([01]{1,600}))?\z`),
	}
)

// plainItemRead reads an item by its form; false, where there is none.
func plainItemRead(text string) (impl.Item, bool) {
	if !itemWhole.MatchString(text) {
		return impl.Item{}, false
	}
	switch rest := text[1:]; text[0] {
	case 'i':
		n, err := strconv.ParseInt(rest, 10, 64)
		if err != nil {
			return impl.Item{}, false
		}
		return intItem(int(n)), true
	case 'f':
		bits, _ := strconv.ParseUint(rest, 16, 64)
		f := math.Float64frombits(bits)
		if f != f && bits != oneNaN {
			return impl.Item{}, false
		}
		return floatItem(f), true
	case 't':
		b, _ := hex.DecodeString(rest)
		return impl.Item{Kind: impl.ItText, T: b}, true
	}
	return impl.Item{}, true
}

// plainOpRead reads an op by its form; the zero value and false, where there is none.
func plainOpRead(text string) (impl.Op, bool) {
	for kind := opBegin; kind <= opCrash; kind++ {
		words := opWholes[kind].FindStringSubmatch(text)
		if words == nil {
			continue
		}
		if o, isOne := plainOpOfWords(kind, words); isOne {
			return o, true
		}
	}
	return impl.Op{}, false
}

func plainOpOfWords(kind int, words []string) (impl.Op, bool) {
	isOne := true
	number := func(i int) int {
		n, err := strconv.Atoi(words[i])
		isOne = isOne && err == nil
		return n
	}
	item := func(i int) impl.Item {
		a, isItem := plainItemRead(words[i])
		isOne = isOne && isItem
		return a
	}
	o := impl.Op{Kind: kind}
	if kind <= opAbort {
		o.Seat = number(1)
	}
	switch kind {
	case opBegin:
		o.Level = number(2)
	case opGet, opDelete:
		o.Key = item(2)
	case opPut:
		o.Key, o.Value = item(2), item(3)
	case opScan:
		o.Key, o.To, o.N = item(2), item(3), number(4)
	case opTotal:
		o.Key, o.To = item(2), item(3)
	case opEvict, opFuse:
		o.N = number(1)
	case opCrash:
		o.Keep = keepOf(words[1])
	}
	return o, isOne
}

// plainLines are the lines of a text, as the document cuts it.
func plainLines(text string) []string {
	lines := strings.Split(text, "\n")
	if lines[len(lines)-1] == "" {
		lines = lines[:len(lines)-1]
	}
	return lines
}

// plainOpsOf are the ops that a text has, up to MaxOps.
func plainOpsOf(text string) []impl.Op {
	var ops []impl.Op
	for _, line := range plainLines(text) {
		if o, isOne := plainOpRead(line); isOne && len(ops) < mostOps {
			ops = append(ops, o)
		}
	}
	return ops
}

// plainTold is what a run of a text tells, line by line, each op being done by the plain reading of a store.
func plainTold(text string) string {
	if len(text) > mostScript {
		return "too long\n"
	}
	k, _ := plainOpen(blankDisk())
	told, count := "", 0
	for _, line := range plainLines(text) {
		o, isOne := plainOpRead(line)
		if !isOne || count == mostOps {
			told += "?\n"
			continue
		}
		count++
		for _, r := range k.one(o) {
			told += plainReply(r) + "\n"
		}
	}
	return told
}

// textOfReplies is what StoreRun replies, a line each.
func textOfReplies(replies []impl.Reply) string {
	told := ""
	for _, r := range replies {
		told += plainReply(r) + "\n"
	}
	return told
}

// textOfOps are the texts of ops as a script; of those that have none nothing is told.
func textOfOps(ops []impl.Op) string {
	text := ""
	for _, o := range ops {
		if line := plainOp(o); line != "" {
			text += line + "\n"
		}
	}
	return text
}

// wantTexts asks that two texts are alike, and tells the first line in which they are not.
func wantTexts(t *testing.T, name string, got string, want string) {
	t.Helper()
	if got == want {
		return
	}
	a, b := strings.SplitAfter(got, "\n"), strings.SplitAfter(want, "\n")
	for i := range max(len(a), len(b)) {
		if i >= len(a) || i >= len(b) {
			t.Fatalf("%s: %d lines are told, want %d", name, len(a), len(b))
		}
		if a[i] != b[i] {
			t.Fatalf("%s: line %d is %q, want %q", name, i, a[i], b[i])
		}
	}
}

// alteredTexts are texts that are the given one but for a byte or two: one is another, one is too many, one is missing,
// two are changed for each other, the text is cut, doubled, and has something around it.
func alteredTexts(text string) []string {
	more := []string{text + text, text + " " + text, text + "\n", text + "\n" + text, "\n" + text, strings.ToUpper(text), strings.ToTitle(text)}
	for i := range len(text) {
		for c := range 256 {
			more = append(more, text[:i]+string([]byte{byte(c)})+text[i+1:])
		}
		if i > 0 {
			more = append(more, text[:i-1]+text[i:i+1]+text[i-1:i]+text[i+1:])
		}
		more = append(more, text[:i], text[i:], text[:i]+text[i+1:])
	}
	for i := range len(text) + 1 {
		for _, s := range []string{" ", "  ", "\n", "\t", "\r", "\x00", "0", "00", "1", "9", "-", "+", "_", ".", "i", "f", "t", "a", "A", "=", "\xff", "\xc3", "é", "\u00a0", "\u2003", "0x", "-0"} {
			more = append(more, text[:i]+s+text[i:])
		}
	}
	return slices.DeleteFunc(more, func(s string) bool { return s == text })
}
