package tests

import (
	"cmp"
	"fmt"
	"math"
	"reflect"
	"slices"
	"testing"

	"loop.example/g00252/impl"
)

// stretchOf is where a list lies in memory, its spare room with it.
type stretchOf struct {
	from, to uintptr
	path     string
}

// stretches finds all lists of a value, also those in lists of it.
func stretches(v reflect.Value, path string) []stretchOf {
	var l []stretchOf
	switch v.Kind() {
	case reflect.Slice:
		if v.Cap() > 0 {
			from := v.Pointer()
			l = append(l, stretchOf{from, from + uintptr(v.Cap())*v.Type().Elem().Size(), path})
		}
		if !holdsLists(v.Type().Elem()) {
			return l
		}
		for i := range v.Len() {
			l = append(l, stretches(v.Index(i), fmt.Sprintf("%s[%d]", path, i))...)
		}
	case reflect.Struct:
		for i := range v.NumField() {
			l = append(l, stretches(v.Field(i), path+"."+v.Type().Field(i).Name)...)
		}
	}
	return l
}

// wantNoneShared fails when two lists of these values lie over each other.
func wantNoneShared(t *testing.T, name string, values ...any) {
	t.Helper()
	var all []stretchOf
	for i, v := range values {
		all = append(all, stretches(reflect.ValueOf(v), fmt.Sprint(i, " "))...)
	}
	slices.SortFunc(all, func(a stretchOf, b stretchOf) int { return cmp.Compare(a.from, b.from) })
	for i := 1; i < len(all); i++ {
		if all[i-1].to > all[i].from {
			t.Fatalf("%s: %s and %s share memory", name, all[i-1].path, all[i].path)
		}
	}
}

// guardedOps is a list of ops with marked room behind it, behind all texts and behind the Keeps.
type guardedOps struct {
	ops   []impl.Op
	whole []impl.Op
	want  []impl.Op
	texts []guarded
}

func (g *guardedOps) text(a impl.Item) impl.Item {
	of := guard(a.T)
	g.texts = append(g.texts, of)
	a.T = of.b
	return a
}

// guardOps lays two more ops behind all, by which there would be more replies.
func guardOps(ops []impl.Op) *guardedOps {
	g := &guardedOps{whole: append(cloneOps(ops), impl.Op{Kind: opBegin, Seat: 7}, impl.Op{Kind: 99})}
	for i := range g.whole {
		o := &g.whole[i]
		o.Key, o.To, o.Value = g.text(o.Key), g.text(o.To), g.text(o.Value)
		o.Keep = append(o.Keep, true, false, true)
	}
	g.want = cloneOps(g.whole)
	g.ops = slices.Clone(g.whole)
	for i := range g.ops {
		g.ops[i].Keep = g.ops[i].Keep[:len(g.ops[i].Keep)-3]
	}
	g.ops = g.ops[:len(ops)]
	return g
}

// check fails when the ops, a text or a Keep in one, or the room behind them are not as they were.
func (g *guardedOps) check(t *testing.T, name string) {
	t.Helper()
	whole := slices.Clone(g.ops[:len(g.want)])
	for i := range whole {
		whole[i].Keep = whole[i].Keep[:len(whole[i].Keep)+3]
	}
	if !slices.EqualFunc(whole, g.want, sameOp) {
		t.Errorf("%s: wrote into its ops or behind them", name)
	}
	for _, of := range g.texts {
		of.check(t, name)
	}
}

func (g *guardedOps) spoil() {
	for _, of := range g.texts {
		spoil(of.b)
	}
	for _, o := range g.whole {
		clear(o.Keep)
	}
	clear(g.ops[:cap(g.ops)])
}

// textScripts are scripts of texts, with seats that wait, deeds, tracks and snapshots left at their end.
func textScripts(t *testing.T) [][]impl.Op {
	t.Helper()
	texts := []impl.Item{textItem("a"), textItem("b"), textItem("some text"), longText("k"), textItem("")}
	scripts := [][]impl.Op{
		nil,
		opsOf(t, "order 0\nput 0 ta tb\nget 0 ta\nscan 0 t tz 9\nscan 0 ta ta 9\ntotal 0 ta tz\ndelete 0 tq\nput 0 ta tc\norder 1\nput 1 ta td\nbegin 2\ndelete 2 ta\norder 3\nget 3 ta\nscan 3 ta tz 5"),
		opsOf(t, "order 0\nput 0 ta tb\nget 0 tx\ncommit 0\norder 0\nget 0 ta\ndelete 0 ta\nput 0 ta tc\norder 1\nget 1 ta\ncommit 1\ncommit 0\nbegin 5\nput 5 ta td\nbegin 6\nput 6 ta te\nabort 5\nvacuum\nbegin 5\nbegin 4"),
		slices.Concat(fullHeap(0), fullHeap(0)),
	}
	for i, d := range drawnKinds() {
		d.keys, d.values, d.n = texts, texts, min(d.n, 120)
		for seed := range uint64(4) {
			scripts = append(scripts, drawOps(d, seed+29*uint64(i)))
		}
	}
	return append(scripts, drawOps(drawnKinds()[5], 3), make([]impl.Op, mostOps+1))
}

func TestRunsLeaveTheirArgumentsAndShareNothing(t *testing.T) {
	for i, ops := range textScripts(t) {
		name := fmt.Sprint("script ", i)
		g := guardOps(ops)
		want := impl.LiveRun(cloneOps(ops))
		got := impl.LiveRun(g.ops)
		g.check(t, name)
		if !samePlay(got, want) {
			t.Errorf("%s: room behind a list shows", name)
		}
		wantNoneShared(t, name, got, g.ops)
		again := impl.LiveRun(g.ops)
		wantNoneShared(t, name, got, again)
		g.spoil()
		if !samePlay(got, want) || !samePlay(again, want) {
			t.Errorf("%s: an answer shares memory with its ops", name)
		}
	}
}

// The ops of one script may stand on the same texts.
func TestRunsOnOneText(t *testing.T) {
	text := []byte("abcdef")
	on := func(n int) impl.Item { return impl.Item{Kind: impl.ItText, T: text[:n]} }
	ops := []impl.Op{
		{Kind: opBegin, Level: 1}, {Kind: opBegin, Seat: 1, Level: 1},
		{Kind: opPut, Key: on(3), Value: on(3)}, {Kind: opPut, Key: on(4), Value: on(6)}, {Kind: opPut, Key: on(3), Value: on(2)},
		{Kind: opGet, Key: on(3)}, {Kind: opScan, Key: on(1), To: on(6), N: 9}, {Kind: opTotal, Key: on(1), To: on(1)},
		{Kind: opPut, Seat: 1, Key: on(3), Value: on(3)},
	}
	want := impl.LiveRun(cloneOps(ops))
	got := impl.LiveRun(ops)
	wantNoneShared(t, "one text", got)
	wantNoneShared(t, "one text", got, impl.Op{Value: on(6)})
	if !samePlay(got, want) || string(text) != "abcdef" {
		t.Errorf("ops on one text: %v, want %v", got, want)
	}
}

func TestCommittedLeavesItsArgumentsAndSharesNothing(t *testing.T) {
	list := sameOf(401, done)
	for _, of := range append(rightHeaps(), namedHeap{"texts", heapOf(pageWith(1, tupleBy(1, 0, textItem("b"), textItem("v")), tupleBy(1, 0, textItem("a"), textItem("v")), tupleBy(1, 0, textItem("a"), textItem("w"))))}) {
		g, asked := guardHeap(of.h), guardNumbers(list)
		got := impl.Committed(g.h, asked.l)
		want := impl.Committed(cloneHeap(of.h), slices.Clone(list))
		g.check(t, of.name)
		asked.check(t, of.name)
		if !slices.EqualFunc(got, want, samePair) {
			t.Errorf("%s: room behind a list shows", of.name)
		}
		wantNoneShared(t, of.name, got)
		for _, one := range got {
			wantNoneShared(t, of.name, one, asked.l)
			for _, p := range g.h.Pages {
				for _, slot := range p.Slots {
					wantNoneShared(t, of.name, one, slot)
				}
			}
		}
	}
}

func TestSessionsNeverPanic(t *testing.T) {
	far := []int{math.MinInt, -1 << 32, -1, 0, 1, 2, 7, 8, 9, 14, 50, 51, 1 << 32, math.MaxInt}
	items := []impl.Item{{}, intItem(1), {Kind: 9}, {Kind: -1, T: make([]byte, 1000)}, {Kind: impl.ItText, T: make([]byte, 41)}, floatItem(math.NaN()), floatItem(minusNought()), textItem("a")}
	for seed, x := range someBits(2000, 77) {
		y := someBits(400, x)
		var ops []impl.Op
		for i := range int(y[0]>>20%uint64(len(y)/2) + 1) {
			z := someBits(8, y[i])
			pick := func(k int, n int) int { return int(z[k] >> 20 % uint64(n)) }
			o := impl.Op{Kind: pick(0, 16) - 1, Seat: pick(1, 3), Level: pick(2, 2), N: pick(3, 9), Key: items[pick(4, 8)], To: items[pick(5, 8)], Value: items[pick(6, 8)]}
			if pick(7, 9) == 0 {
				o.Kind, o.Seat, o.Level, o.N = far[pick(0, len(far))], far[pick(1, len(far))], far[pick(2, len(far))], far[pick(3, len(far))]
			}
			ops = append(ops, o)
		}
		quiet(t, fmt.Sprint("LiveRun, seed ", seed), func() { impl.LiveRun(ops) })
		for _, o := range ops {
			quiet(t, "OpOk", func() { impl.OpOk(o) })
		}
	}
	for _, of := range slices.Concat(rightHeaps(), wrongHeaps(), brokenHeaps()) {
		for _, l := range [][]int{nil, {0}, sameOf(401, done), sameOf(100000, 1), far} {
			quiet(t, "Committed, "+of.name, func() { impl.Committed(of.h, l) })
		}
	}
	quiet(t, "LiveRun of very many", func() { impl.LiveRun(make([]impl.Op, 1000000)) })
}

// Wrong ops between right ones change nothing of what those are told.
func TestWrongOpsChangeNothing(t *testing.T) {
	wrong := []impl.Op{{}, {Kind: 14}, {Kind: opPut}, {Kind: opBegin, Level: 2}, {Kind: opScan, Key: intItem(1), To: intItem(2), N: 51}, {Kind: opCheckpoint}, {Kind: opCrash}, {Kind: opGet, Seat: 8, Key: intItem(1)}}
	for i, d := range rightKindsOfScripts() {
		d.n = min(d.n, mostOps/2)
		for seed := range uint64(5) {
			ops := drawOps(d, seed+31*uint64(i))
			var more []impl.Op
			for k, o := range ops {
				more = append(more, o, wrong[(k+int(seed))%len(wrong)])
			}
			p, plain := impl.LiveRun(more), impl.LiveRun(ops)
			replies := slices.DeleteFunc(p.Replies, func(r impl.Reply) bool { return r.Code == rpBad })
			if field := otherField(p.Db, plain.Db); field != "" || !slices.EqualFunc(replies, plain.Replies, sameReply) {
				t.Fatalf("kind %d, seed %d: wrong ops between change %s or a reply", i, seed, field)
			}
		}
	}
}
