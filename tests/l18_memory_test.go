package tests

import (
	"fmt"
	"runtime"
	"slices"
	"sync"
	"testing"

	"loop.example/g00252/impl"
)

func TestTextsOfItemsLeaveTheirArguments(t *testing.T) {
	for _, a := range slices.Concat(risingItems(), wrongItems()) {
		g := guard(a.T)
		of := a
		of.T = g.b
		text := impl.ItemText(of)
		g.check(t, "ItemText")
		wantNoneShared(t, "ItemText", text, g.b)
		asked := guard(text)
		got, is := impl.ItemRead(asked.b)
		asked.check(t, "ItemRead")
		wantNoneShared(t, "ItemRead", got, asked.b)
		spoil(g.b)
		spoil(asked.b)
		if string(text) != plainItem(a) || is != impl.ItemOk(a) || is && !sameItem(got, a) {
			t.Errorf("%v: %q and %v, %t share memory with what was handed in", a, text, got, is)
		}
	}
}

func TestTextsOfOpsLeaveTheirArguments(t *testing.T) {
	ops := badOps()
	for _, of := range textsOfOps() {
		ops = append(ops, of.o, filled(of.o))
	}
	g := guardOps(ops)
	for i, o := range g.ops {
		text := impl.OpText(o)
		wantNoneShared(t, "OpText", text, o)
		again := impl.OpText(o)
		wantNoneShared(t, "OpText", text, again)
		asked := guard(text)
		got, is := impl.OpRead(asked.b)
		other, _ := impl.OpRead(asked.b)
		asked.check(t, "OpRead")
		wantNoneShared(t, "OpRead", got, other, asked.b)
		spoil(asked.b)
		spoil(again)
		if want := plainOp(ops[i]); string(text) != want || is != (want != "") || is && !sameOp(got, plainNeeded(ops[i])) {
			t.Errorf("%v: %q and %v, %t share memory with what was handed in", ops[i], text, got, is)
		}
	}
	g.check(t, "OpText")
}

// A Keep, and items, on memory that others stand on too.
func TestTextsOfOpsOnOneText(t *testing.T) {
	text := []byte("abcdef")
	on := impl.Item{Kind: impl.ItText, T: text[:3]}
	line := impl.OpText(impl.Op{Kind: opPut, Key: on, To: on, Value: on})
	o, is := impl.OpRead(line)
	if string(line) != "put 0 t616263 t616263" || !is || string(text) != "abcdef" {
		t.Errorf("on one text: %q, %v, %t", line, o, is)
	}
	wantNoneShared(t, "on one text", o, text, line)
}

func TestTextsOfRepliesLeaveTheirArguments(t *testing.T) {
	items := slices.Concat(risingItems(), wrongItems())
	for n := range 40 {
		var r, want impl.Reply
		var texts []guarded
		item := func(i int) impl.Item {
			a := items[i*31%len(items)]
			texts = append(texts, guard(a.T))
			a.T = texts[len(texts)-1].b
			return a
		}
		r.Value = item(n)
		want.Value = cloneItem(r.Value)
		for i := range n {
			r.Rows = append(r.Rows, impl.Pair{Key: item(n + i), Value: item(n + i + 7)})
			want.Rows = append(want.Rows, impl.Pair{Key: cloneItem(r.Rows[i].Key), Value: cloneItem(r.Rows[i].Value)})
		}
		whole := append(r.Rows, impl.Pair{Key: intItem(5)}, impl.Pair{Key: intItem(6)})
		r.Rows = whole[:n]
		text := impl.ReplyText(r)
		wantNoneShared(t, "ReplyText", text, r)
		wantReplyText(t, "room behind the rows", r, plainReply(want))
		for _, of := range texts {
			of.check(t, "ReplyText")
			spoil(of.b)
		}
		if !sameItem(whole[n].Key, intItem(5)) || !sameItem(whole[n+1].Key, intItem(6)) || string(text) != plainReply(want) {
			t.Errorf("ReplyText of %d rows wrote into its argument, or shares memory with it", n)
		}
	}
}

func TestRunsOfTextsLeaveTheirArguments(t *testing.T) {
	do := func(name string, text string) {
		g := guard([]byte(text))
		got, want := impl.RunText(g.b), runText(text)
		again := impl.RunText(g.b)
		g.check(t, name)
		wantNoneShared(t, name, got, again, g.b)
		spoil(g.b)
		spoil(again)
		wantTexts(t, name, string(got), want)
	}
	textsOfStores(3, do)
	for _, text := range []string{"", "\n", "vacuum", "?", "begin 0 0\n\nput 0 t61 t61", times("x", mostScript), times("x", mostScript+1)} {
		do("a text", text)
	}
}

// However often it is asked, and whatever was asked ahead of it or is asked beside it, one text gives one answer.
func TestTextsAreTheSameEachTime(t *testing.T) {
	textsOfStores(3, func(name string, text string) {
		first := runText(text)
		var all sync.WaitGroup
		for range 8 {
			all.Add(1)
			go func() {
				defer all.Done()
				if runText(text) != first {
					t.Errorf("%s: answers to one text differ", name)
				}
			}()
		}
		all.Wait()
	})
	for _, of := range textsOfOps() {
		for range 5 {
			wantOpText(t, "again", of.o, of.text)
			wantOpRead(t, "again", of.text, of.o, true)
		}
	}
}

func TestAllGoroutinesHaveEndedBehindATextsRun(t *testing.T) {
	before := runtime.NumGoroutine()
	textsOfStores(2, func(name string, text string) {
		impl.RunText([]byte(text))
		wantNoMoreGoroutines(t, name, before)
	})
}

func TestTextsNeverPanic(t *testing.T) {
	var pieces []string
	for _, of := range textsOfOps() {
		pieces = append(pieces, of.text+"\n", of.text)
	}
	pieces = append(pieces, noOps()...)
	pieces = append(pieces, " ", "\n", "\n\n", "-", "\x00", "\xff")
	for _, x := range someBits(600, 18018) {
		text := ""
		for _, y := range someBits(int(x>>20%150), x) {
			text += pieces[int(y>>20)%len(pieces)] + times("\n", int(y>>50%3)/2)
		}
		quiet(t, "RunText of pieces", func() { impl.RunText([]byte(text)) })
		quiet(t, "OpRead of pieces", func() { impl.OpRead([]byte(text)) })
		b := someBytes(int(x>>30%400), x)
		quiet(t, "RunText of some bytes", func() { impl.RunText(b) })
		quiet(t, "OpRead of some bytes", func() { impl.OpRead(b) })
		quiet(t, "ItemRead of some bytes", func() { impl.ItemRead(b) })
		for _, start := range []string{"i", "f", "t", "get 0 ", "crash ", "fuse "} {
			quiet(t, "ItemRead of some bytes", func() { impl.ItemRead(append([]byte(start), b...)) })
			quiet(t, "OpRead of some bytes", func() { impl.OpRead(append([]byte(start), b...)) })
		}
	}
	for _, n := range []int{1000000, 10000000} {
		for _, fill := range []byte("i0f t\n\xff") {
			b := slices.Repeat([]byte{fill}, n)
			quiet(t, fmt.Sprint("of very many of ", fill), func() {
				impl.RunText(b)
				impl.OpRead(b)
				impl.ItemRead(b)
				impl.ItemText(impl.Item{Kind: impl.ItText, T: b})
			})
		}
	}
	quiet(t, "of very many", func() {
		impl.OpText(impl.Op{Kind: opCrash, Keep: make([]bool, 1000000)})
		impl.ReplyText(impl.Reply{Rows: make([]impl.Pair, 300000)})
	})
}
