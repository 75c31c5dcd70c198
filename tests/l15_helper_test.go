package tests

import (
	"fmt"
	"math"
	"slices"
	"strconv"
	"strings"
	"testing"

	"loop.example/g00252/impl"
)

// Chapter 15's limits, kinds and codes as the document names them, in numbers.
const (
	mostSeats = 8
	mostOps   = 200
	mostTaken = 50

	opBegin      = 1
	opGet        = 2
	opPut        = 3
	opDelete     = 4
	opScan       = 5
	opTotal      = 6
	opCommit     = 7
	opAbort      = 8
	opVacuum     = 9
	opCheckpoint = 10
	opEvict      = 11
	opFuse       = 12
	opCrash      = 13

	rpDone     = 0
	rpNone     = 1
	rpWait     = 2
	rpBusy     = 3
	rpShut     = 4
	rpOpen     = 5
	rpBad      = 6
	rpConflict = 7
	rpDeadlock = 8
	rpSerial   = 9
	rpFull     = 10
	rpDown     = 11
)

// opNames and codeNames stand in the order of their numbers; what a test's script calls order is a begin of Level 1.
func opNames() []string {
	return []string{"nothing", "begin", "get", "put", "delete", "scan", "total", "commit", "abort", "vacuum", "checkpoint", "evict", "fuse", "crash"}
}

func codeNames() []string {
	return []string{"done", "none", "wait", "busy", "shut", "open", "bad", "conflict", "deadlock", "serial", "full", "down"}
}

func nameOf(names []string, n int) string {
	if n < 0 || n >= len(names) {
		return fmt.Sprint("?", n)
	}
	return names[n]
}

// wordOf is an item as a test's script has it: 5, f1.5, tabc; a text of one byte many times is told as t40*k.
func wordOf(a impl.Item) string {
	switch a.Kind {
	case impl.ItInt:
		return strconv.Itoa(a.N)
	case impl.ItFloat:
		return "f" + strconv.FormatFloat(a.F, 'g', -1, 64)
	case impl.ItText:
		if n := len(a.T); n > 9 && strings.Count(string(a.T), string(a.T[:1])) == n {
			return fmt.Sprintf("t%d*%c", n, a.T[0])
		}
		return "t" + string(a.T)
	}
	return fmt.Sprintf("?%v", a)
}

func itemOfWord(t *testing.T, word string) impl.Item {
	t.Helper()
	switch {
	case strings.HasPrefix(word, "f"):
		f, err := strconv.ParseFloat(word[1:], 64)
		if err != nil {
			t.Fatal(err)
		}
		return floatItem(f)
	case strings.HasPrefix(word, "t"):
		n, of, isLong := strings.Cut(word[1:], "*")
		if count, err := strconv.Atoi(n); isLong && err == nil {
			return textItem(strings.Repeat(of, count))
		}
		return textItem(word[1:])
	}
	return intItem(numberOfWord(t, word))
}

func numberOfWord(t *testing.T, word string) int {
	t.Helper()
	n, err := strconv.Atoi(word)
	if err != nil {
		t.Fatal(err)
	}
	return n
}

// opOfLine is an op of a test's script: its name, its seat and what it needs.
func opOfLine(t *testing.T, line string) impl.Op {
	t.Helper()
	words := append(strings.Fields(line), "", "", "", "", "")
	o := impl.Op{Kind: slices.Index(opNames(), words[0])}
	if words[0] == "order" {
		o.Kind, o.Level = opBegin, 1
	}
	if o.Kind < 0 {
		t.Fatalf("no op: %s", line)
	}
	if words[1] != "" {
		o.Seat = numberOfWord(t, words[1])
	}
	switch o.Kind {
	case opGet, opPut, opDelete, opScan, opTotal:
		o.Key = itemOfWord(t, words[2])
	}
	switch o.Kind {
	case opPut:
		o.Value = itemOfWord(t, words[3])
	case opScan:
		o.N = numberOfWord(t, words[4])
		fallthrough
	case opTotal:
		o.To = itemOfWord(t, words[3])
	}
	return o
}

// linesOf are the lines of a test's script, without blanks around them and without empty ones.
func linesOf(script string) []string {
	var lines []string
	for line := range strings.Lines(script) {
		if line = strings.TrimSpace(line); line != "" {
			lines = append(lines, line)
		}
	}
	return lines
}

// opsOf reads a script's ops; what stands behind => is not looked at.
func opsOf(t *testing.T, script string) []impl.Op {
	t.Helper()
	var ops []impl.Op
	for _, line := range linesOf(script) {
		line, _, _ = strings.Cut(line, "=>")
		ops = append(ops, opOfLine(t, line))
	}
	return ops
}

// wordsOf tells a reply whole: its seat and kind, its code, and what of the rest is not zero.
func wordsOf(r impl.Reply) string {
	text := fmt.Sprintf("%d %s %s", r.Seat, nameOf(opNames(), r.Kind), nameOf(codeNames(), r.Code))
	if r.N != 0 {
		text += fmt.Sprint(" ", r.N)
	}
	if !sameItem(r.Value, impl.Item{}) {
		text += " is " + wordOf(r.Value)
	}
	for _, pair := range r.Rows {
		text += " " + wordOf(pair.Key) + "=" + wordOf(pair.Value)
	}
	if math.Float64bits(r.Total) != 0 {
		text += " sum " + strconv.FormatFloat(r.Total, 'g', -1, 64)
	}
	return text
}

// wantTold asks for the replies to a script, each line of which has behind => what is replied to its op, and behind each ;
// a reply to who was waked by it, with its seat and kind.
func wantTold(t *testing.T, name string, script string, ops []impl.Op, replies []impl.Reply) {
	t.Helper()
	var want []string
	for i, line := range linesOf(script) {
		_, told, _ := strings.Cut(line, "=>")
		own := fmt.Sprintf("%d %s", ops[i].Seat, nameOf(opNames(), ops[i].Kind))
		for k, reply := range strings.Split(told, ";") {
			if k == 0 {
				reply = own + " " + strings.TrimSpace(reply)
			}
			want = append(want, strings.TrimSpace(reply))
		}
	}
	var got []string
	for _, r := range replies {
		got = append(got, wordsOf(r))
	}
	if !slices.Equal(got, want) {
		t.Fatalf("%s: the replies are\n%s\nwant\n%s", name, strings.Join(got, "\n"), strings.Join(want, "\n"))
	}
}

// wantPlay runs a script in memory, and asks for its replies.
func wantPlay(t *testing.T, name string, script string) impl.Play {
	t.Helper()
	ops := opsOf(t, script)
	p := impl.LiveRun(ops)
	wantTold(t, name, script, ops, p.Replies)
	return p
}

func samePair(a impl.Pair, b impl.Pair) bool {
	return sameItem(a.Key, b.Key) && sameItem(a.Value, b.Value)
}

func sameReply(a impl.Reply, b impl.Reply) bool {
	return a.Seat == b.Seat && a.Kind == b.Kind && a.Code == b.Code && a.N == b.N && sameItem(a.Value, b.Value) &&
		slices.EqualFunc(a.Rows, b.Rows, samePair) && sameFloat(a.Total, b.Total)
}

func sameOp(a impl.Op, b impl.Op) bool {
	return a.Kind == b.Kind && a.Seat == b.Seat && a.Level == b.Level && a.N == b.N && sameItem(a.Key, b.Key) &&
		sameItem(a.To, b.To) && sameItem(a.Value, b.Value) && slices.Equal(a.Keep, b.Keep)
}

func sameSeat(a impl.Seat, b impl.Seat) bool {
	return a.Open == b.Open && a.Level == b.Level && a.Snap.Self == b.Snap.Self && slices.Equal(a.Snap.Running, b.Snap.Running) &&
		a.Begun == b.Begun && sameOp(a.Waits, b.Waits) && a.Holder == b.Holder && a.Since == b.Since &&
		slices.EqualFunc(a.Reads, b.Reads, sameSpan) && slices.EqualFunc(a.Writes, b.Writes, sameItem)
}

// otherField tells the first field in which two Dbs are not the same; nothing, where they are.
func otherField(a impl.Db, b impl.Db) string {
	for _, of := range []struct {
		name string
		same bool
	}{
		{"Next", a.Next == b.Next},
		{"Clock", a.Clock == b.Clock},
		{"Turns", a.Turns == b.Turns},
		{"Lsn", a.Lsn == b.Lsn},
		{"Room", a.Room == b.Room},
		{"Imaged", slices.Equal(a.Imaged, b.Imaged)},
		{"List", slices.Equal(a.List, b.List)},
		{"Seats", slices.EqualFunc(a.Seats, b.Seats, sameSeat)},
		{"Tracks", sameTracks(a.Tracks, b.Tracks)},
		{"Deeds", slices.EqualFunc(a.Deeds, b.Deeds, sameDeed)},
		{"Log", sameLog(a.Log, b.Log)},
		{"Heap", sameHeap(a.Heap, b.Heap)},
		{"Tree", sameTree(a.Tree, b.Tree)},
	} {
		if !of.same {
			return of.name
		}
	}
	return ""
}

func samePlay(a impl.Play, b impl.Play) bool {
	return slices.EqualFunc(a.Replies, b.Replies, sameReply) && otherField(a.Db, b.Db) == ""
}

// plainFresh is the fresh Db as the document lays it.
func plainFresh() impl.Db {
	return impl.Db{
		Tree:  treeOf(0, leafOf()),
		List:  []int{0},
		Next:  1,
		Lsn:   1,
		Room:  -1,
		Seats: make([]impl.Seat, 8),
	}
}

func cloneOps(ops []impl.Op) []impl.Op {
	c := slices.Clone(ops)
	for i := range c {
		c[i].Key, c[i].To, c[i].Value = cloneItem(c[i].Key), cloneItem(c[i].To), cloneItem(c[i].Value)
		c[i].Keep = slices.Clone(c[i].Keep)
	}
	return c
}

// codesOf are the replies' codes alone.
func codesOf(p impl.Play) []int {
	var codes []int
	for _, r := range p.Replies {
		codes = append(codes, r.Code)
	}
	return codes
}

// wantNumbers asks for a Db's numbers: Next, Clock, Turns and Lsn.
func wantNumbers(t *testing.T, name string, db impl.Db, next int, clock int, turns int, lsn int) {
	t.Helper()
	if db.Next != next || db.Clock != clock || db.Turns != turns || db.Lsn != lsn || db.Room != -1 {
		t.Errorf("%s: Next, Clock, Turns and Lsn are %d, %d, %d, %d beside Room %d, want %d, %d, %d, %d",
			name, db.Next, db.Clock, db.Turns, db.Lsn, db.Room, next, clock, turns, lsn)
	}
}

func wantSeat(t *testing.T, name string, got impl.Seat, want impl.Seat) {
	t.Helper()
	if !sameSeat(got, want) {
		t.Errorf("%s: the seat is %v, want %v", name, got, want)
	}
}

// wantLogged asks for the whole log, whose numbers go from 1 on.
func wantLogged(t *testing.T, name string, db impl.Db, want ...impl.Record) {
	t.Helper()
	for i := range want {
		want[i].Lsn = i + 1
	}
	if !sameLog(db.Log, want) {
		t.Errorf("%s: the log is\n%v\nwant\n%v", name, db.Log, want)
	}
	if db.Lsn != len(want)+1 {
		t.Errorf("%s: Lsn is %d behind %d records", name, db.Lsn, len(want))
	}
}

// wantTreeOfRows asks that the tree has just the places of all rows.
func wantTreeOfRows(t *testing.T, name string, db impl.Db) {
	t.Helper()
	var want []impl.Entry
	for _, r := range plainRows(db.Heap) {
		want = append(want, impl.Entry{Key: r.Tuple.Key, Id: r.Page*16 + r.Slot})
	}
	slices.SortFunc(want, plainEntryOrder)
	if !plainHeapOk(db.Heap) || !plainTreeOk(db.Tree) || !sameEntries(plainTreeAll(db.Tree), want) {
		t.Errorf("%s: the tree has %v, want %v", name, plainTreeAll(db.Tree), want)
	}
}

// wantCommitted asks for keys and values as a test's script has them: 5=7 ta=f1.
func wantCommitted(t *testing.T, name string, db impl.Db, want string) {
	t.Helper()
	var got []string
	for _, pair := range impl.Committed(db.Heap, db.List) {
		got = append(got, wordOf(pair.Key)+"="+wordOf(pair.Value))
	}
	if strings.Join(got, " ") != want {
		t.Errorf("%s: committed is %q, want %q", name, strings.Join(got, " "), want)
	}
}
