package tests

import (
	"fmt"
	"math"
	"slices"
	"testing"

	"loop.example/g00252/impl"
)

// guardedDeeds is a list of deeds with marked room behind it, behind the Reads and Writes of each, and behind all texts.
type guardedDeeds struct {
	l     []impl.Deed
	want  []impl.Deed
	whole []impl.Deed
	texts []guarded
}

// text is a copy of an item whose text has marked room behind it.
func (g *guardedDeeds) text(a impl.Item) impl.Item {
	of := guard(a.T)
	g.texts = append(g.texts, of)
	a.T = of.b
	return a
}

// guardDeeds lays two more deeds behind all, and two more Reads and Writes behind those of each, by which there would be more pairs.
func guardDeeds(l []impl.Deed) *guardedDeeds {
	g := &guardedDeeds{whole: cloneDeeds(l)}
	g.whole = append(g.whole, deedOf(1, 2), deedOf(100000, 100001))
	for i := range g.whole {
		d := &g.whole[i]
		d.Reads = append(d.Reads, textSpan("", "z"), spanOf(math.MinInt, math.MaxInt))
		d.Writes = append(d.Writes, textItem("behind"), intItem(0))
		for k, s := range d.Reads {
			d.Reads[k] = impl.Span{From: g.text(s.From), To: g.text(s.To)}
		}
		for k, key := range d.Writes {
			d.Writes[k] = g.text(key)
		}
	}
	g.want = cloneDeeds(g.whole)
	g.l = slices.Clone(g.whole)
	for i := range g.l {
		d := &g.l[i]
		d.Reads, d.Writes = d.Reads[:len(d.Reads)-2], d.Writes[:len(d.Writes)-2]
	}
	g.l = g.l[:len(l)]
	return g
}

// check fails when the list, a list in it or the room behind one are not as they were.
func (g *guardedDeeds) check(t *testing.T, name string) {
	t.Helper()
	whole := slices.Clone(g.l[:len(g.want)])
	for i := range whole {
		d := &whole[i]
		d.Reads, d.Writes = d.Reads[:len(d.Reads)+2], d.Writes[:len(d.Writes)+2]
	}
	if !slices.EqualFunc(whole, g.want, sameDeed) {
		t.Errorf("%s: wrote into its deeds or behind a list of them", name)
	}
	for _, b := range g.texts {
		b.check(t, name)
	}
}

func (g *guardedDeeds) spoil() {
	for _, b := range g.texts {
		spoil(b.b)
	}
	for _, d := range g.whole {
		clear(d.Reads)
		clear(d.Writes)
	}
	clear(g.l[:cap(g.l)])
}

// deedAnswer is what a call of the chapter answers, whichever it is.
type deedAnswer struct {
	pairs  [][2]int
	places []int
	ok     bool
}

func (a deedAnswer) clone() deedAnswer {
	a.pairs, a.places = slices.Clone(a.pairs), slices.Clone(a.places)
	return a
}

func (a deedAnswer) same(b deedAnswer) bool {
	return slices.Equal(a.pairs, b.pairs) && slices.Equal(a.places, b.places) && a.ok == b.ok
}

// spoil changes all that was answered, and the room behind it.
func (a deedAnswer) spoil() {
	pairs := a.pairs[:cap(a.pairs)]
	for i := range pairs {
		pairs[i] = [2]int{-7, -8}
	}
	spoilNumbers(a.places)
}

// deedCall is one call that takes deeds and an order.
type deedCall struct {
	name string
	do   func(l []impl.Deed, order []int) deedAnswer
}

func deedCalls() []deedCall {
	return []deedCall{
		{"DeedsOk", func(l []impl.Deed, order []int) deedAnswer { return deedAnswer{ok: impl.DeedsOk(l)} }},
		{"GraphEdges", func(l []impl.Deed, order []int) deedAnswer { return deedAnswer{pairs: impl.GraphEdges(l)} }},
		{"GraphOrder", func(l []impl.Deed, order []int) deedAnswer {
			places, ok := impl.GraphOrder(l)
			return deedAnswer{places: places, ok: ok}
		}},
		{"GraphRing", func(l []impl.Deed, order []int) deedAnswer { return deedAnswer{places: impl.GraphRing(l)} }},
		{"GraphSerial", func(l []impl.Deed, order []int) deedAnswer { return deedAnswer{ok: impl.GraphSerial(l, order)} }},
	}
}

// textDeeds read and write n texts each, in falling order.
func textDeeds(n int) []impl.Deed {
	l := slices.Concat(behindEachOther(3), []impl.Deed{deedOf(11, 15), deedOf(12, 14)})
	for i := range l {
		for k := n - 1; k >= 0; k-- {
			l[i] = writingKeys(l[i], textItem(fmt.Sprintf("text %d %d", k, i)))
			l[i] = readingSpans(l[i], textSpan(fmt.Sprintf("text %d %d", k, i), fmt.Sprintf("text %d %d", k, i+1)))
		}
	}
	return l
}

func memoryDeeds() []namedDeeds {
	l := []namedDeeds{{"no texts", textDeeds(0)}, {"one text each", textDeeds(1)}, {"texts", textDeeds(3)}, {"many texts", textDeeds(30)}}
	for seed := range uint64(20) {
		l = append(l, namedDeeds{"some deeds", someDeeds(6, 3, 3, seed+80)})
	}
	l = append(l, rightDeeds()...)
	for i, of := range wrongDeeds() {
		if i%3 == 0 && len(of.l) <= mostDeeds+1 {
			l = append(l, of)
		}
	}
	return l
}

func TestDeedsLeaveTheirArgumentsAndShareNothing(t *testing.T) {
	for _, of := range memoryDeeds() {
		turns, _ := impl.GraphOrder(cloneDeeds(of.l))
		falling := upTo(0, len(of.l)-1)
		slices.Reverse(falling)
		for _, order := range [][]int{nil, turns, upTo(0, len(of.l)-1), falling, append(upTo(0, len(of.l)-1), 0)} {
			for _, c := range deedCalls() {
				name := c.name + ", " + of.name
				g, asked := guardDeeds(of.l), guardNumbers(order)
				got := c.do(g.l, asked.l)
				want := got.clone()
				g.check(t, name)
				asked.check(t, name)
				if plain := c.do(cloneDeeds(of.l), slices.Clone(order)); !plain.same(want) {
					t.Errorf("%s: room behind a list shows", name)
				}
				got.spoil()
				g.check(t, name+", its answer spoilt")
				asked.check(t, name+", its answer spoilt")
				again := c.do(g.l, asked.l)
				g.spoil()
				spoilNumbers(asked.l)
				if !again.same(want) {
					t.Errorf("%s: shares memory with an argument or with another answer", name)
				}
			}
		}
	}
}

// Lists and texts of one argument may stand on the same memory.
func TestDeedsOnOneList(t *testing.T) {
	text := []byte("abcdef")
	var keys []impl.Item
	var spans []impl.Span
	for n := len(text); n > 0; n-- {
		key := impl.Item{Kind: impl.ItText, T: text[:n]}
		keys = append(keys, key)
		spans = append(spans, impl.Span{From: impl.Item{Kind: impl.ItText, T: text[:max(0, n-2)]}, To: key})
	}
	l := behindEachOther(4)
	for i := range l {
		l[i].Writes, l[i].Reads = keys[i:i+2], spans[i:i+3]
	}
	was := cloneDeeds(l)
	for _, c := range deedCalls() {
		got := c.do(l, upTo(0, 3))
		if want := c.do(was, upTo(0, 3)); !got.same(want) {
			t.Errorf("%s on one list: %v, want %v", c.name, got, want)
		}
		if !slices.EqualFunc(l, was, sameDeed) {
			t.Fatalf("%s on one list: wrote into it", c.name)
		}
	}
}

// One list that is changed between two calls: nothing is kept of what it was.
func TestDeedsKeepNothing(t *testing.T) {
	for range 3 {
		l := graphOf(3, pairsOf(2, 1, 1, 0)...)
		wantTurns(t, "as it was", l, 2, 1, 0)
		wantPairs(t, "as it was", l, pairsOf(1, 0, 2, 1)...)
		l[0] = reading(l[0], 70)
		l[2] = writing(l[2], 70)
		wantNoTurns(t, "a ring", l)
		wantRound(t, "a ring", l, 0, 1, 2)
		l[2].Writes[0] = intItem(71)
		wantTurns(t, "the ring is open", l, 2, 1, 0)
		l[2].Ended = l[1].Ended
		wantNoTurns(t, "two Ended alike", l)
		wantPairs(t, "two Ended alike", l)
		wantDeedsOk(t, "two Ended alike", l, false)
	}
}

func TestDeedsNeverPanic(t *testing.T) {
	far := []int{math.MinInt, -1 << 32, -1, 0, 1, 2, 3, mostDeeds, mostDeeds + 1, 1 << 32, math.MaxInt}
	lists := slices.Concat(rightDeeds(), wrongDeeds(), []namedDeeds{
		{"very many", behindEachOther(100000)},
		{"very many, all zero", make([]impl.Deed, 100000)},
		{"very many acts", []impl.Deed{{Begun: 1, Ended: 2, Reads: make([]impl.Span, 100000), Writes: make([]impl.Item, 100000)}}},
		{"long texts", []impl.Deed{writingKeys(readingSpans(deedOf(1, 2), textSpan("", string(make([]byte, 100000)))), textItem(string(make([]byte, 100000))))}},
	})
	for _, begun := range far {
		for _, end := range far {
			lists = append(lists, namedDeeds{"far numbers", []impl.Deed{writing(reading(deedOf(begun, end), 5), 5), writing(reading(deedOf(5, 9), 5), 5)}})
		}
	}
	for _, of := range lists {
		orders := [][]int{nil, {0}, {-1}, far, upTo(0, min(len(of.l), 2000)-1), sameOf(len(of.l), 0)}
		for _, order := range orders {
			for _, c := range deedCalls() {
				quiet(t, c.name+", "+of.name, func() { c.do(of.l, order) })
			}
		}
	}
}
