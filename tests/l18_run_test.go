package tests

import (
	"fmt"
	"slices"
	"strings"
	"testing"

	"loop.example/g00252/impl"
)

// wantTextRun runs a text each line of which has behind => what is told for it, several of it with ; between; Z stands for
// the Total +0.
func wantTextRun(t *testing.T, name string, script string) {
	t.Helper()
	var lines []string
	want := ""
	for _, of := range linesOf(script) {
		line, told, _ := strings.Cut(of, "=>")
		lines = append(lines, strings.TrimSpace(line))
		for reply := range strings.SplitSeq(strings.ReplaceAll(told, "Z", "0000000000000000"), ";") {
			want += strings.TrimSpace(reply) + "\n"
		}
	}
	text := strings.Join(lines, "\n")
	wantTexts(t, name, runText(text), want)
	wantTexts(t, name+", with a line feed at its end", runText(text+"\n"), want)
	wantTexts(t, name+", by the plain reading", plainTold(text), want)
}

func runText(text string) string {
	return string(impl.RunText([]byte(text)))
}

// wantToldAsPlainly holds what a run of a text tells against the plain reading, and against what StoreRun replies.
func wantToldAsPlainly(t *testing.T, name string, text string) string {
	t.Helper()
	got := runText(text)
	wantTexts(t, name, got, plainTold(text))
	if len(text) <= mostScript {
		replies := ""
		for line := range strings.Lines(got) {
			if line != "?\n" {
				replies += line
			}
		}
		wantTexts(t, name+", beside StoreRun", replies, textOfReplies(impl.StoreRun(plainOpsOf(text)).Replies))
	}
	return got
}

func TestRunsOfTexts(t *testing.T) {
	wantTextRun(t, "one by one", `
		begin 0 0 => 00 0 1 1 - Z
		put 0 i5 t61 => 00 0 3 0 - Z
		get 0 i5 => 00 0 2 0 t61 Z
		get 0 i6 => 01 0 2 0 - Z
		put 0 i5 f8000000000000000 => 00 0 3 1 - Z
		put 0 f8000000000000000 f3ff8000000000000 => 00 0 3 0 - Z
		get 0 f0000000000000000 => 00 0 2 0 f3ff8000000000000 Z
		get 0 f8000000000000000 => 00 0 2 0 f3ff8000000000000 Z
		scan 0 i1 t 9 => 00 0 5 2 - Z i5=f8000000000000000 f0000000000000000=f3ff8000000000000
		scan 0 i1 t 1 => 00 0 5 2 - Z i5=f8000000000000000
		scan 0 i1 t 0 => 00 0 5 2 - Z
		scan 0 t i1 50 => 00 0 5 0 - Z
		total 0 i1 t => 00 0 6 2 - 3ff8000000000000
		total 0 i5 i5 => 00 0 6 1 - Z
		delete 0 i5 => 00 0 4 0 - Z
		delete 0 i5 => 01 0 4 0 - Z
		commit 0 => 00 0 7 1 - Z
		commit 0 => 04 0 7 0 - Z
		begin 0 1 => 00 0 1 2 - Z
		begin 0 1 => 05 0 1 0 - Z
		abort 0 => 00 0 8 0 - Z
		vacuum => 00 0 9 2 - Z
		vacuum => 00 0 9 0 - Z`)
	wantTextRun(t, "one waits, and goes on", `
		begin 0 0 => 00 0 1 1 - Z
		begin 1 0 => 00 1 1 2 - Z
		begin 2 0 => 00 2 1 3 - Z
		put 0 i5 i1 => 00 0 3 0 - Z
		put 1 i5 i2 => 02 1 3 1 - Z
		put 2 i5 i3 => 02 2 3 1 - Z
		get 1 i5 => 03 1 2 0 - Z
		abort 0 => 00 0 8 0 - Z; 00 1 3 0 - Z; 02 2 3 2 - Z
		commit 1 => 00 1 7 2 - Z; 07 2 3 0 - Z
		get 2 i5 => 04 2 2 0 - Z`)
	wantTextRun(t, "a ring of waits, and an order that is not", `
		begin 0 0 => 00 0 1 1 - Z
		begin 1 0 => 00 1 1 2 - Z
		put 0 i1 i1 => 00 0 3 0 - Z
		put 1 i2 i2 => 00 1 3 0 - Z
		put 0 i2 i1 => 02 0 3 2 - Z
		put 1 i1 i2 => 08 1 3 0 - Z; 00 0 3 0 - Z
		commit 0 => 00 0 7 1 - Z
		begin 2 1 => 00 2 1 3 - Z
		begin 3 1 => 00 3 1 4 - Z
		get 2 i1 => 00 2 2 0 i1 Z
		get 3 i2 => 00 3 2 0 i1 Z
		put 2 i2 i3 => 00 2 3 1 - Z
		put 3 i1 i4 => 09 3 3 0 - Z
		commit 2 => 09 2 7 0 - Z`)
}

func TestRunsOfTextsOverADiskThatStops(t *testing.T) {
	wantTextRun(t, "crashes, fuses, checkpoints and evictions", `
		evict 0 => 01 0 11 0 - Z
		checkpoint => 00 0 10 0 - Z
		begin 0 0 => 00 0 1 1 - Z
		put 0 i5 i7 => 00 0 3 0 - Z
		commit 0 => 00 0 7 1 - Z
		begin 3 0 => 00 3 1 2 - Z
		begin 4 1 => 00 4 1 3 - Z
		put 3 i5 i8 => 00 3 3 1 - Z
		put 4 i6 i8 => 00 4 3 0 - Z
		evict 0 => 00 0 11 0 - Z
		crash 1111 => 00 0 13 2 - Z
		get 3 i5 => 04 3 2 0 - Z
		begin 0 0 => 00 0 1 4 - Z
		scan 0 i0 i9 50 => 00 0 5 1 - Z i5=i7
		put 0 i5 i9 => 00 0 3 1 - Z
		fuse 0 => 00 0 12 0 - Z
		commit 0 => 11 0 7 0 - Z
		begin 0 0 => 11 0 1 0 - Z
		checkpoint => 11 0 10 0 - Z
		evict 15 => 11 0 11 0 - Z
		fuse 5 => 11 0 12 0 - Z
		vacuum => 11 0 9 0 - Z
		crash => 00 0 13 0 - Z
		begin 0 0 => 00 0 1 4 - Z
		get 0 i5 => 00 0 2 0 i7 Z
		checkpoint => 00 0 10 0 - Z
		fuse 0 => 00 0 12 0 - Z
		checkpoint => 11 0 10 0 - Z
		crash 000000000000 => 00 0 13 0 - Z
		vacuum => 00 0 9 2 - Z
		begin 7 0 => 00 7 1 5 - Z
		get 7 i5 => 00 7 2 0 i7 Z
		fuse 9223372036854775807 => 00 0 12 0 - Z
		commit 7 => 00 7 7 5 - Z`)
	wantTextRun(t, "a commit all of which was kept", `
		begin 0 0 => 00 0 1 1 - Z
		put 0 i5 i7 => 00 0 3 0 - Z
		fuse 6 => 00 0 12 0 - Z
		commit 0 => 11 0 7 0 - Z
		crash 111111 => 00 0 13 0 - Z
		begin 0 0 => 00 0 1 2 - Z
		get 0 i5 => 00 0 2 0 i7 Z`)
}

func TestRunsOfTextsWithoutLines(t *testing.T) {
	for _, of := range [][2]string{
		{"", ""},
		{"\n", "?\n"},
		{"\n\n", "?\n?\n"},
		{" ", "?\n"},
		{"\n ", "?\n?\n"},
		{"?", "?\n"},
		{"?\n", "?\n"},
		{"\r\n", "?\n"},
		{"\r", "?\n"},
		{"\x00", "?\n"},
		{"\xff\n\xfe", "?\n?\n"},
		{"é\n", "?\n"},
		{"vacuum", "00 0 9 0 - 0000000000000000\n"},
		{"vacuum\n", "00 0 9 0 - 0000000000000000\n"},
		{"\nvacuum", "?\n00 0 9 0 - 0000000000000000\n"},
		{"vacuum\n\n", "00 0 9 0 - 0000000000000000\n?\n"},
		{"vacuum\n\nvacuum\n", "00 0 9 0 - 0000000000000000\n?\n00 0 9 0 - 0000000000000000\n"},
		{"vacuum \n", "?\n"},
		{"vacuum\r\n", "?\n"},
		{"vacuum\r", "?\n"},
		{"vacuum\n ", "00 0 9 0 - 0000000000000000\n?\n"},
		{"vacuum\u2028vacuum", "?\n"},
		{"vacuum\u0085vacuum", "?\n"},
		{"vacuum\xe2\nvacuum", "?\n00 0 9 0 - 0000000000000000\n"},
		{"vacuum\n\xe2\x80\nvacuum", "00 0 9 0 - 0000000000000000\n?\n00 0 9 0 - 0000000000000000\n"},
		{"crash\n", "00 0 13 0 - 0000000000000000\n"},
		{"crash \n", "?\n"},
	} {
		wantTexts(t, fmt.Sprintf("%q", of[0]), runText(of[0]), of[1])
		wantToldAsPlainly(t, fmt.Sprintf("%q", of[0]), of[0])
	}
	if got := impl.RunText(nil); len(got) != 0 {
		t.Errorf("RunText of nil is %q", got)
	}
}

func TestTextsUpToMaxOps(t *testing.T) {
	line, told := "vacuum\n", "00 0 9 0 - 0000000000000000\n"
	for _, n := range []int{0, 1, 2, 199, 200, 201, 202, 400, 2000} {
		want := times(told, min(n, 200)) + times("?\n", max(n-200, 0))
		wantTexts(t, fmt.Sprint(n, " ops"), runText(times(line, n)), want)
		wantTexts(t, fmt.Sprint(n, " ops"), runText(strings.TrimSuffix(times(line, n), "\n")), want)
	}
	// lines that are no op do not count
	for _, n := range []int{199, 200, 201, 300} {
		want := "?\n" + times(told+"?\n?\n", min(n, 200)) + times("?\n?\n?\n", max(n-200, 0))
		wantTexts(t, fmt.Sprint(n, " ops among others"), runText("?\n"+times(line+"\nvacuum 0\n", n)), want)
	}
	// nor do the replies of those that are waked, but what is refused does
	text := "begin 0 0\nbegin 1 0\nput 0 i1 i1\nput 1 i1 i2\nabort 0\n" + times("begin 1 0\n", 195) + "get 1 i1\n"
	got := strings.Split(wantToldAsPlainly(t, "with some that are waked", text), "\n")
	if len(got) != 203 || !strings.HasPrefix(got[200], "05 ") || got[201] != "?" {
		t.Errorf("%d lines are told, the last ones being %q", len(got), got[190:])
	}
	// what is dead does so too
	text = "fuse 0\ncheckpoint\n" + times("commit 5\n", 198) + "crash\n"
	got = strings.Split(wantToldAsPlainly(t, "with a disk that stopped", text), "\n")
	if len(got) != 202 || !strings.HasPrefix(got[199], "11 ") || got[200] != "?" {
		t.Errorf("%d lines are told, the last ones being %q", len(got), got[190:])
	}
}

func TestTextsUpToMaxScript(t *testing.T) {
	t.Parallel()
	told := "00 0 9 0 - 0000000000000000\n"
	for _, n := range []int{mostScript - 1, mostScript, mostScript + 1, mostScript + 2, 2 * mostScript, 65536, 1000000} {
		tooLong := n > mostScript
		for _, of := range [][2]string{
			{times("\n", n), times("?\n", n)},
			{times(" ", n), "?\n"},
			{times("\x00", n), "?\n"},
			{times("\xff", n), "?\n"},
			{"vacuum\n" + times("x", n-7), told + "?\n"},
			{times("x", n-8) + "\nvacuum\n"[:8], "?\n" + told},
			{times("x", n-7) + "\nvacuum", "?\n" + told},
			{("vacuum\n" + times("crash ", n))[:n], told + "?\n"},
			{(times("vacuum\n", n))[:n-1] + "\n", ""},
			{(times("begin 0 0\nput 0 i1 i1\ncommit 0\n", n))[:n], ""},
		} {
			name := fmt.Sprintf("%d bytes, %.20q", n, of[0])
			if len(of[0]) != n {
				t.Fatalf("%s: they are %d", name, len(of[0]))
			}
			if tooLong {
				wantTexts(t, name, runText(of[0]), "too long\n")
				continue
			}
			if got := wantToldAsPlainly(t, name, of[0]); of[1] != "" {
				wantTexts(t, name, got, of[1])
			}
		}
	}
}

// noOps are lines that are no op, most of them not by much.
func noOps() []string {
	return []string{
		"", " ", "?", "vacuum ", " vacuum", "VACUUM", "vacuum 1", "begin 0 2", "begin 8 0", "begin  0 0", "begin 0 00", "put 0 i5", "put 0 i5 -", "put 0 i05 i5", "get 0 i-0", "get 0 tA0", "get 0 -", "get 0 f7ff8000000000001",
		"scan 0 i1 i2 51", "total 0 i1", "commit", "abort 9", "crash ", "crash 2", "crash 1 1", "fuse -1", "evict 16", "checkpoint\r", "\xff", "\xe2\x80", "é", "\x00", "\tcommit 0", "00 0 9 0 - 0000000000000000", "too long", "crash " + times("1", 601),
	}
}

// textsOfStores are drawn scripts as texts, each of at most MaxScript bytes, in some of which lines stand that are no op.
func textsOfStores(seeds uint64, do func(name string, text string)) {
	for i, d := range storeKinds() {
		for seed := range seeds {
			lines := strings.SplitAfter(textOfOps(drawStoreOps(d, seed+500*uint64(i))), "\n")
			for seed%3 > 0 && len(lines) > 0 {
				x := someBits(2, seed*777+uint64(len(lines)))
				at, no := int(x[0]>>20)%len(lines), noOps()[int(x[1]>>20)%len(noOps())]
				lines = slices.Insert(lines, at, no+"\n")
				if x[0]>>50%20 == 0 {
					break
				}
			}
			text := strings.Join(lines, "")
			for len(text) > mostScript {
				text = text[:strings.LastIndex(text[:len(text)-1], "\n")+1]
			}
			if seed%2 == 0 {
				text = strings.TrimSuffix(text, "\n")
			}
			do(fmt.Sprint("kind ", i, ", seed ", seed), text)
		}
	}
}

func TestPromise22(t *testing.T) {
	t.Parallel()
	seen := map[string]int{}
	textsOfStores(24, func(name string, text string) {
		got := wantToldAsPlainly(t, name, text)
		if lines, told := len(plainLines(text)), strings.Count(got, "\n"); told < lines {
			t.Fatalf("%s: %d lines are told for %d", name, told, lines)
		}
		for line := range strings.Lines(got) {
			seen[line[:2]]++
			if line == "?\n" {
				seen["no op"]++
			}
		}
	})
	for _, what := range []string{"00", "01", "02", "03", "04", "05", "07", "08", "09", "10", "11", "no op"} {
		if seen[what] < 5 {
			t.Errorf("%s came %d times alone", what, seen[what])
		}
	}
}

// Of a script of ops that are OpOk all that is told are the replies of StoreRun.
func TestTextsOfOpsTellWhatStoreRunReplies(t *testing.T) {
	t.Parallel()
	for i, d := range storeKinds() {
		for seed := range uint64(12) {
			var ops []impl.Op
			size := 0
			for _, o := range drawStoreOps(d, seed+900*uint64(i)) {
				if size += len(plainOp(o)) + 1; plainOpOk(o) && size <= mostScript {
					ops = append(ops, plainNeeded(o))
				}
			}
			var text []byte
			for _, o := range ops {
				text = append(append(text, impl.OpText(o)...), '\n')
			}
			name := fmt.Sprint("kind ", i, ", seed ", seed)
			var want []byte
			for _, r := range impl.StoreRun(ops).Replies {
				want = append(append(want, impl.ReplyText(r)...), '\n')
			}
			wantTexts(t, name, string(impl.RunText(text)), string(want))
		}
	}
}

// Lines that are no op change nothing of what is told for the others.
func TestLinesOfNoOpChangeNothing(t *testing.T) {
	text := "begin 0 0\nput 0 i5 t61\ncommit 0\nbegin 1 1\nget 1 i5\nfuse 2\nput 1 i6 i7\ncommit 1\ncrash 10\nbegin 0 0\nscan 0 i0 i9 9\n"
	want := runText(text)
	for _, no := range noOps() {
		lines := strings.SplitAfter(text, "\n")
		for at := range lines {
			got := runText(strings.Join(slices.Insert(slices.Clone(lines), at, no+"\n"), ""))
			if told := strings.Replace(got, "?\n", "", 1); told != want || strings.Count(got, "?\n") != 1 {
				t.Errorf("%q as line %d: told is %q", no, at, got)
			}
		}
	}
}

// A text that is cut anywhere tells, but for the line that was cut, what the whole one tells.
func TestTextsThatAreCut(t *testing.T) {
	t.Parallel()
	text := "begin 0 0\nput 0 i55 t616263\ncommit 0\n\nbegin 1 1\nget 1 i55\nfuse 2\nput 1 f8000000000000000 i777\ncommit 1\ncrash 101\nbegin 0 0\nscan 0 i0 tff 19"
	for n := range len(text) + 1 {
		wantToldAsPlainly(t, fmt.Sprint("cut at ", n), text[:n])
	}
	for i, other := range alteredTexts("begin 0 0\nput 0 i1 t6\ncrash 1") {
		if i%9 == 0 {
			wantToldAsPlainly(t, fmt.Sprintf("altered, %q", other), other)
		}
	}
}
