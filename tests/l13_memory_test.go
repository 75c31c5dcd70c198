package tests

import (
	"fmt"
	"math"
	"slices"
	"testing"

	"loop.example/g00252/impl"
)

// guardedTracks is a list of tracks with marked room behind it, behind the Reads and Writes of each, and behind all texts.
type guardedTracks struct {
	l     []impl.Track
	want  []impl.Track
	whole []impl.Track
	texts []guarded
}

// text is a copy of an item whose text has marked room behind it.
func (g *guardedTracks) text(a impl.Item) impl.Item {
	of := guard(a.T)
	g.texts = append(g.texts, of)
	a.T = of.b
	return a
}

// guardTracks lays two more tracks behind all, and two more Reads and Writes behind those of each.
func guardTracks(l []impl.Track) *guardedTracks {
	g := &guardedTracks{whole: cloneTracks(l)}
	g.whole = append(g.whole, withMarks(active(301, 1), true, true), impl.Track{Xid: -1, All: true})
	for i := range g.whole {
		track := &g.whole[i]
		track.Reads = append(track.Reads, textSpan("behind", "all"), spanOf(-901, 902))
		track.Writes = append(track.Writes, textItem("behind"), intItem(903))
		for k, s := range track.Reads {
			track.Reads[k] = impl.Span{From: g.text(s.From), To: g.text(s.To)}
		}
		for k, key := range track.Writes {
			track.Writes[k] = g.text(key)
		}
	}
	g.want = cloneTracks(g.whole)
	g.l = slices.Clone(g.whole)
	for i := range g.l {
		track := &g.l[i]
		track.Reads, track.Writes = track.Reads[:len(track.Reads)-2], track.Writes[:len(track.Writes)-2]
	}
	g.l = g.l[:len(l)]
	return g
}

// check fails when the list, a list in it or the room behind one are not as they were.
func (g *guardedTracks) check(t *testing.T, name string) {
	t.Helper()
	whole := slices.Clone(g.l[:len(g.want)])
	for i := range whole {
		track := &whole[i]
		track.Reads, track.Writes = track.Reads[:len(track.Reads)+2], track.Writes[:len(track.Writes)+2]
	}
	if !sameTracks(whole, g.want) {
		t.Errorf("%s: wrote into its tracks or behind a list of them", name)
	}
	for _, b := range g.texts {
		b.check(t, name)
	}
}

func (g *guardedTracks) spoil() {
	for _, b := range g.texts {
		spoil(b.b)
	}
	for _, track := range g.whole {
		clear(track.Reads)
		clear(track.Writes)
	}
	clear(g.l[:cap(g.l)])
}

// edgeAnswer is what a call of the chapter answers, whichever it is.
type edgeAnswer struct {
	l    []impl.Track
	code int
}

func (a edgeAnswer) clone() edgeAnswer {
	return edgeAnswer{l: cloneTracks(a.l), code: a.code}
}

func (a edgeAnswer) same(b edgeAnswer) bool {
	return sameTracks(a.l, b.l) && a.code == b.code
}

// wantApart writes into all lists of an answer and the room behind them, and looks whether one wrote over another.
func (a edgeAnswer) wantApart(t *testing.T, name string) {
	t.Helper()
	var texts impl.Page
	tracks := a.l[:cap(a.l)]
	for _, track := range tracks {
		for _, s := range track.Reads[:cap(track.Reads)] {
			texts.Slots = append(texts.Slots, s.From.T, s.To.T)
		}
		for _, key := range track.Writes[:cap(track.Writes)] {
			texts.Slots = append(texts.Slots, key.T)
		}
	}
	wantSlotsApart(t, name, texts)
	for i, track := range tracks {
		for k := range track.Reads[:cap(track.Reads)] {
			track.Reads[:cap(track.Reads)][k] = spanOf(i, k)
		}
		for k := range track.Writes[:cap(track.Writes)] {
			track.Writes[:cap(track.Writes)][k] = intItem(1000*i + k)
		}
	}
	for i, track := range tracks {
		for k, s := range track.Reads[:cap(track.Reads)] {
			if !sameSpan(s, spanOf(i, k)) {
				t.Fatalf("%s: two lists of Reads of the answer share memory", name)
			}
		}
		for k, key := range track.Writes[:cap(track.Writes)] {
			if !sameItem(key, intItem(1000*i+k)) {
				t.Fatalf("%s: two lists of Writes of the answer share memory", name)
			}
		}
	}
	clear(tracks)
}

// edgeCall is one call that takes tracks, an xid, a moment and a span, the From of which is its key.
type edgeCall struct {
	name string
	do   func(l []impl.Track, xid int, now int, s impl.Span) edgeAnswer
}

func edgeCalls() []edgeCall {
	told := func(l []impl.Track, code int) edgeAnswer { return edgeAnswer{l: l, code: code} }
	is := func(ok bool) edgeAnswer { return edgeAnswer{code: oneIf(ok)} }
	return []edgeCall{
		{"SpanOk", func(l []impl.Track, xid int, now int, s impl.Span) edgeAnswer { return is(impl.SpanOk(s)) }},
		{"TracksOk", func(l []impl.Track, xid int, now int, s impl.Span) edgeAnswer { return is(impl.TracksOk(l)) }},
		{"TrackReads", func(l []impl.Track, xid int, now int, s impl.Span) edgeAnswer {
			return is(len(l) > 0 && impl.TrackReads(l[0], s.From))
		}},
		{"Concurrent", func(l []impl.Track, xid int, now int, s impl.Span) edgeAnswer {
			return is(len(l) > 1 && impl.Concurrent(l[0], l[1]))
		}},
		{"EdgeBegin", func(l []impl.Track, xid int, now int, s impl.Span) edgeAnswer {
			return told(impl.EdgeBegin(l, xid, now))
		}},
		{"EdgeBegin, another xid", func(l []impl.Track, xid int, now int, s impl.Span) edgeAnswer {
			return told(impl.EdgeBegin(l, 333, now))
		}},
		{"EdgeRead", func(l []impl.Track, xid int, now int, s impl.Span) edgeAnswer { return told(impl.EdgeRead(l, xid, s)) }},
		{"EdgeWrite", func(l []impl.Track, xid int, now int, s impl.Span) edgeAnswer {
			return told(impl.EdgeWrite(l, xid, s.From))
		}},
		{"EdgeEnd, done", func(l []impl.Track, xid int, now int, s impl.Span) edgeAnswer {
			return told(impl.EdgeEnd(l, xid, now, true))
		}},
		{"EdgeEnd, not done", func(l []impl.Track, xid int, now int, s impl.Span) edgeAnswer {
			return told(impl.EdgeEnd(l, xid, now, false))
		}},
	}
}

// textTracks read and write texts: n of each.
func textTracks(n int) []impl.Track {
	l := tracksOf(active(1, 10), ended(2, 5, 20), active(3, 4), withMarks(active(4, 12), true, true), withAll(active(5, 13)))
	for i := range l {
		for k := range n {
			l[i].Writes = append(l[i].Writes, textItem(fmt.Sprintf("text %d %d", i, k)))
			if !l[i].All {
				l[i].Reads = append(l[i].Reads, textSpan(fmt.Sprintf("text %d %d", k, i), fmt.Sprintf("text %d %d", k+1, i)))
			}
		}
	}
	return cloneTracks(l)
}

// memoryTracks are right lists, of texts above all, and a few of the wrong ones.
func memoryTracks() []namedTracks {
	l := []namedTracks{{"no texts", textTracks(0)}, {"one text each", textTracks(1)}, {"texts", textTracks(3)}, {"MaxReads texts", textTracks(mostReads)}}
	for seed := range uint64(10) {
		l = append(l, namedTracks{"some tracks", someTracks(seed + 60)})
	}
	l = append(l, rightTracks()...)
	for i, of := range wrongTracks() {
		if i%4 == 0 && len(of.l) < 100 {
			l = append(l, of)
		}
	}
	return l
}

func TestTracksLeaveTheirArgumentsAndShareNothing(t *testing.T) {
	spans := []impl.Span{textSpan("text 1 0", "text 3"), textSpan("text 0 0", "text 0 0"), textSpan("", "z"), spanOf(1, 2), {}}
	for _, of := range memoryTracks() {
		for _, c := range edgeCalls() {
			for i, s := range spans {
				xid, now := 1+i, []int{15, 40}[i%2]
				name := fmt.Sprint(c.name, ", ", of.name, ", span ", i)
				g, from := guardTracks(of.l), guardTuple(impl.Tuple{Key: s.From, Value: s.To})
				on := impl.Span{From: from.t.Key, To: from.t.Value}
				check := func(name string) {
					g.check(t, name)
					from.check(t, name)
				}
				got := c.do(g.l, xid, now, on)
				want := got.clone()
				check(name)
				if plain := c.do(cloneTracks(of.l), xid, now, s); !plain.same(want) {
					t.Errorf("%s: room behind a list shows", name)
				}
				got.wantApart(t, name)
				check(name + ", its answer spoilt")
				again := c.do(g.l, xid, now, on)
				g.spoil()
				from.spoil()
				if !again.same(want) {
					t.Errorf("%s: shares memory with an argument or with another answer", name)
				}
			}
		}
	}
}

// sharedTracks have all their Reads on one list, all their Writes on another, and all texts on the same bytes.
func sharedTracks() []impl.Track {
	text := []byte("abcdef")
	var keys []impl.Item
	var spans []impl.Span
	for n := range mostReads {
		key := impl.Item{Kind: impl.ItText, T: text[:n+1]}
		keys = append(keys, key)
		spans = append(spans, impl.Span{From: impl.Item{Kind: impl.ItText, T: text[:1]}, To: key})
	}
	var l []impl.Track
	for i := range 4 {
		l = append(l, withSpans(withKeys(active(1+i, 10), keys[:i+2]...), spans[:i+3]...))
	}
	l[3].Ended = 30
	return l
}

// Lists and texts of one argument may stand on the same memory, and the span that is read too.
func TestAnswersOfTracksOnOneListAreApart(t *testing.T) {
	for _, c := range edgeCalls() {
		for xid := range 6 {
			for n := range 7 {
				l := sharedTracks()
				text := l[0].Writes[0].T[:n]
				on := impl.Span{From: impl.Item{Kind: impl.ItText, T: text}, To: impl.Item{Kind: impl.ItText, T: text}}
				got := c.do(l, xid, 20, on)
				if plain := c.do(cloneTracks(l), xid, 20, textSpan("abcdef"[:n], "abcdef"[:n])); !plain.same(got) {
					t.Errorf("%s on one list: %v, want %v", c.name, got, plain)
				}
				got.wantApart(t, c.name+" on one list")
				if !sameTracks(l, sharedTracks()) {
					t.Fatalf("%s: its answer shares memory with its argument", c.name)
				}
			}
		}
	}
}

func TestTracksAreLeftByTheCallsBehindThem(t *testing.T) {
	first := textTracks(2)
	want := cloneTracks(first)
	left, _ := impl.EdgeWrite(first, 1, textItem("left"))
	right, _ := impl.EdgeWrite(first, 1, textItem("right"))
	one, _ := impl.EdgeRead(first, 1, textSpan("one", "one"))
	other, _ := impl.EdgeRead(first, 1, textSpan("other", "other"))
	begun, _ := impl.EdgeBegin(first, 9, 50)
	again, _ := impl.EdgeBegin(first, 8, 60)
	wantTracks(t, "six calls behind one list", first, edgeWell, want, edgeWell)
	if !sameItem(left[0].Writes[2], textItem("left")) || !sameItem(right[0].Writes[2], textItem("right")) {
		t.Errorf("two writes: %v, %v", left[0], right[0])
	}
	if !sameSpan(one[0].Reads[2], textSpan("one", "one")) || !sameSpan(other[0].Reads[2], textSpan("other", "other")) {
		t.Errorf("two reads: %v, %v", one[0], other[0])
	}
	if begun[5].Xid != 9 || again[5].Xid != 8 {
		t.Errorf("two begins: %v, %v", begun[5], again[5])
	}
}

// One list that is changed between two calls: nothing is kept of what it was.
func TestTracksKeepNothing(t *testing.T) {
	for range 3 {
		l := tracksOf(active(1, 10), withWrites(active(2, 11), 5))
		wantEdgeRead(t, "as it was", l, 1, spanOf(5, 5), tracksOf(withMarks(withReads(active(1, 10), 5), false, true), withMarks(withWrites(active(2, 11), 5), true, false)), edgeWell)
		l[1].Writes[0] = intItem(6)
		wantEdgeRead(t, "another key", l, 1, spanOf(5, 5), tracksOf(withReads(active(1, 10), 5), withWrites(active(2, 11), 6)), edgeWell)
		l[1].Xid = 1
		wantEdgeRead(t, "another Xid", l, 1, spanOf(5, 5), nil, edgeBad)
	}
}

func TestTracksNeverPanic(t *testing.T) {
	numbers := []int{math.MinInt, -1 << 32, -1, 0, 1, 2, 3, lastXid, lastXid + 1, 1 << 32, math.MaxInt - 1, math.MaxInt}
	spans := []impl.Span{spanOf(1, 2), {}, spanOf(2, 1), {From: impl.Item{Kind: 9}, To: intItem(1)}, textSpan("", string(make([]byte, 1000))), {From: floatItem(math.NaN()), To: floatItem(minusNought())}}
	lists := slices.Concat(rightTracks(), wrongTracks(), []namedTracks{{"zero tracks", make([]impl.Track, 70)}, {"texts", textTracks(3)}})
	for _, of := range lists {
		for i, xid := range numbers {
			for k, now := range numbers {
				for _, c := range edgeCalls() {
					quiet(t, c.name+", "+of.name, func() { c.do(of.l, xid, now, spans[(i+k)%len(spans)]) })
				}
			}
		}
	}
}
