package tests

import (
	"bytes"
	"math"
	"slices"
	"testing"

	"loop.example/g00252/impl"
)

// Chapter 14's limits as the document names them, in numbers.
const (
	mostDeeds = 100
	mostActs  = 200
)

func deedOf(begun int, end int) impl.Deed {
	return impl.Deed{Begun: begun, Ended: end}
}

// reading is the deed with one more span of a whole number for each of these.
func reading(d impl.Deed, numbers ...int) impl.Deed {
	return readingSpans(d, spansOf(numbers...)...)
}

func readingSpans(d impl.Deed, spans ...impl.Span) impl.Deed {
	d.Reads = slices.Concat(d.Reads, spans)
	return d
}

func writing(d impl.Deed, numbers ...int) impl.Deed {
	return writingKeys(d, intItems(numbers...)...)
}

func writingKeys(d impl.Deed, keys ...impl.Item) impl.Deed {
	d.Writes = slices.Concat(d.Writes, keys)
	return d
}

// besideEachOther are n deeds that all began ahead of the end of each.
func besideEachOther(n int) []impl.Deed {
	var l []impl.Deed
	for i := range n {
		l = append(l, deedOf(1+i, 1+n+i))
	}
	return l
}

// behindEachOther are n deeds each of which ended ahead of the next one's Begun.
func behindEachOther(n int) []impl.Deed {
	var l []impl.Deed
	for i := range n {
		l = append(l, deedOf(1+2*i, 2+2*i))
	}
	return l
}

// pairsOf takes two places a pair.
func pairsOf(places ...int) [][2]int {
	var l [][2]int
	for i := 0; i+1 < len(places); i += 2 {
		l = append(l, [2]int{places[i], places[i+1]})
	}
	return l
}

// graphOf are n deeds with just these pairs: all are beside each other, and each pair has a key of its own, which its
// first deed reads and its second one writes.
func graphOf(n int, pairs ...[2]int) []impl.Deed {
	l := besideEachOther(n)
	for key, p := range pairs {
		l[p[0]] = reading(l[p[0]], 10*key)
		l[p[1]] = writing(l[p[1]], 10*key)
	}
	return l
}

// aheadOfEachOther are the pairs from each of these places to the next one.
func aheadOfEachOther(places ...int) [][2]int {
	var l [][2]int
	for i := 1; i < len(places); i++ {
		l = append(l, [2]int{places[i-1], places[i]})
	}
	return l
}

// roundOf are the pairs from each of these places to the next one, and from the last one to the first.
func roundOf(places ...int) [][2]int {
	return append(aheadOfEachOther(places...), [2]int{places[len(places)-1], places[0]})
}

// allGraphs are all ways in which pairs may lead from one to another of n places.
func allGraphs(n int) [][][2]int {
	var all [][2]int
	for a := range n {
		for b := range n {
			if a != b {
				all = append(all, [2]int{a, b})
			}
		}
	}
	var graphs [][][2]int
	for bits := range 1 << len(all) {
		var pairs [][2]int
		for i, p := range all {
			if bits>>i&1 == 1 {
				pairs = append(pairs, p)
			}
		}
		graphs = append(graphs, pairs)
	}
	return graphs
}

// someGraph are pairs of n places, about one of every so many that may be.
func someGraph(n int, every int, seed uint64) [][2]int {
	var pairs [][2]int
	for i, x := range someBits(n*n, seed) {
		a, b := i/n, i%n
		if a != b && x>>20%uint64(every) == 0 {
			pairs = append(pairs, [2]int{a, b})
		}
	}
	return pairs
}

// allTurns are all orders of n places, the least first.
func allTurns(n int) [][]int {
	all := [][]int{nil}
	for range n {
		var longer [][]int
		for _, l := range all {
			for place := range n {
				if !slices.Contains(l, place) {
					longer = append(longer, append(slices.Clip(l), place))
				}
			}
		}
		all = longer
	}
	return all
}

func cloneDeeds(l []impl.Deed) []impl.Deed {
	var c []impl.Deed
	for _, d := range l {
		reads, writes := d.Reads, d.Writes
		d.Reads, d.Writes = nil, nil
		for _, s := range reads {
			d.Reads = append(d.Reads, impl.Span{From: cloneItem(s.From), To: cloneItem(s.To)})
		}
		for _, key := range writes {
			d.Writes = append(d.Writes, cloneItem(key))
		}
		c = append(c, d)
	}
	return c
}

// changedDeeds is a copy with one thing done to it.
func changedDeeds(l []impl.Deed, change func(l []impl.Deed)) []impl.Deed {
	c := cloneDeeds(l)
	change(c)
	return c
}

func sameDeed(a impl.Deed, b impl.Deed) bool {
	return a.Xid == b.Xid && a.Begun == b.Begun && a.Ended == b.Ended &&
		slices.EqualFunc(a.Reads, b.Reads, sameSpan) && slices.EqualFunc(a.Writes, b.Writes, sameItem)
}

func plainDeedOk(d impl.Deed) bool {
	return d.Begun > 0 && d.Ended > d.Begun && len(d.Reads) <= mostActs && len(d.Writes) <= mostActs &&
		!slices.ContainsFunc(d.Reads, func(s impl.Span) bool { return !plainSpanOk(s) }) &&
		!slices.ContainsFunc(d.Writes, func(key impl.Item) bool { return !impl.KeyOk(key) })
}

// plainDeedsOk is what the document says of DeedsOk, word by word.
func plainDeedsOk(l []impl.Deed) bool {
	if len(l) > mostDeeds {
		return false
	}
	var moments []int
	for _, d := range l {
		if !plainDeedOk(d) || slices.Contains(moments, d.Begun) || slices.Contains(moments, d.Ended) {
			return false
		}
		moments = append(moments, d.Begun, d.Ended)
	}
	return true
}

func plainWrites(d impl.Deed, key impl.Item) bool {
	return slices.ContainsFunc(d.Writes, func(other impl.Item) bool { return bytes.Equal(plainKey(other), plainKey(key)) })
}

func plainReads(d impl.Deed, key impl.Item) bool {
	return slices.ContainsFunc(d.Reads, func(s impl.Span) bool { return plainIn(s, key) })
}

// plainPair is one of the document's three reasons by which a stands ahead of b.
func plainPair(a impl.Deed, b impl.Deed) bool {
	bothWrite := slices.ContainsFunc(a.Writes, func(key impl.Item) bool { return plainWrites(b, key) })
	readBehind := slices.ContainsFunc(a.Writes, func(key impl.Item) bool { return plainReads(b, key) })
	writtenBehind := slices.ContainsFunc(b.Writes, func(key impl.Item) bool { return plainReads(a, key) })
	return bothWrite && a.Ended < b.Ended || readBehind && a.Ended < b.Begun || writtenBehind && b.Ended > a.Begun
}

func plainGraphEdges(l []impl.Deed) [][2]int {
	if !plainDeedsOk(l) {
		return nil
	}
	var pairs [][2]int
	for i, a := range l {
		for k, b := range l {
			if i != k && plainPair(a, b) {
				pairs = append(pairs, [2]int{i, k})
			}
		}
	}
	return pairs
}

// plainTake takes places away one after the other by the pairs; and tells those that are left.
func plainTake(n int, pairs [][2]int) ([]int, []int) {
	var taken []int
	left := upTo(0, n-1)
	for {
		at := slices.IndexFunc(left, func(b int) bool {
			return !slices.ContainsFunc(pairs, func(p [2]int) bool { return p[1] == b && !slices.Contains(taken, p[0]) })
		})
		if at < 0 {
			return taken, left
		}
		taken = append(taken, left[at])
		left = append(slices.Clone(left[:at]), left[at+1:]...)
	}
}

func plainGraphOrder(n int, pairs [][2]int) ([]int, bool) {
	taken, left := plainTake(n, pairs)
	if len(left) > 0 {
		return nil, false
	}
	return taken, true
}

func plainGraphRing(n int, pairs [][2]int) []int {
	_, left := plainTake(n, pairs)
	if len(left) == 0 {
		return nil
	}
	way := []int{left[0]}
	for {
		place := way[len(way)-1]
		next := slices.IndexFunc(left, func(a int) bool { return slices.Contains(pairs, [2]int{a, place}) })
		if at := slices.Index(way, left[next]); at >= 0 {
			return way[at:]
		}
		way = append(way, left[next])
	}
}

// plainRead is the deed behind a reading of key, of deeds that were committed when the reader began; -1, where there is none.
func plainRead(l []impl.Deed, reader int, key impl.Item) int {
	behind := -1
	for i, d := range l {
		if i != reader && plainWrites(d, key) && d.Ended < l[reader].Begun && (behind < 0 || d.Ended > l[behind].Ended) {
			behind = i
		}
	}
	return behind
}

// plainGraphSerial does the deeds one behind the other over a map from keys to who wrote them last.
func plainGraphSerial(l []impl.Deed, order []int) bool {
	sorted := slices.Sorted(slices.Values(order))
	if !plainDeedsOk(l) || !slices.Equal(sorted, upTo(0, len(l)-1)) {
		return false
	}
	var keys []impl.Item
	for _, d := range l {
		keys = append(keys, d.Writes...)
	}
	last := map[string]int{}
	for _, place := range order {
		for _, key := range keys {
			was, isThere := last[string(plainKey(key))]
			if !isThere {
				was = -1
			}
			if plainReads(l[place], key) && was != plainRead(l, place, key) {
				return false
			}
		}
		for _, key := range l[place].Writes {
			last[string(plainKey(key))] = place
		}
	}
	return true
}

// namedDeeds is a list of deeds of a test's table.
type namedDeeds struct {
	name string
	l    []impl.Deed
}

// rightDeeds are lists that are DeedsOk, at the chapter's limits too.
func rightDeeds() []namedDeeds {
	return []namedDeeds{
		{"no list", nil},
		{"an empty list", []impl.Deed{}},
		{"one", behindEachOther(1)},
		{"one that ended last of all", []impl.Deed{deedOf(math.MaxInt-1, math.MaxInt)}},
		{"one over all moments", []impl.Deed{deedOf(1, math.MaxInt)}},
		{"beside each other", besideEachOther(5)},
		{"behind each other", behindEachOther(5)},
		{"one within another", []impl.Deed{deedOf(1, 9), deedOf(2, 8), deedOf(3, 7)}},
		{"falling moments", []impl.Deed{deedOf(50, 60), deedOf(30, 55), deedOf(1, 2)}},
		{"a pair", graphOf(2, pairsOf(0, 1)...)},
		{"a pair that leads back", graphOf(2, pairsOf(1, 0)...)},
		{"a ring of two", graphOf(2, roundOf(0, 1)...)},
		{"a ring of three, others beside it", graphOf(6, append(roundOf(4, 1, 2), pairsOf(0, 1, 2, 3, 5, 0)...)...)},
		{"two rings", graphOf(5, append(roundOf(1, 3), roundOf(0, 4, 2)...)...)},
		{"MaxActs Reads", []impl.Deed{reading(deedOf(1, 2), upTo(1, mostActs)...), writing(deedOf(3, 4), 7)}},
		{"one span MaxActs times", []impl.Deed{reading(deedOf(1, 2), sameOf(mostActs, 3)...), writing(deedOf(3, 4), 3)}},
		{"MaxActs Writes", []impl.Deed{writing(deedOf(1, 2), upTo(1, mostActs)...), reading(deedOf(3, 4), 7)}},
		{"one key MaxActs times", []impl.Deed{writing(deedOf(1, 2), sameOf(mostActs, 3)...), writing(deedOf(3, 4), sameOf(mostActs, 3)...)}},
		{"keys of all kinds", []impl.Deed{writingKeys(deedOf(1, 4), someKeys()...), readingSpans(deedOf(2, 3), edgeSpans()...)}},
		{"MaxDeeds beside each other", besideEachOther(mostDeeds)},
		{"MaxDeeds in a row", graphOf(mostDeeds, aheadOfEachOther(upTo(0, mostDeeds-1)...)...)},
		{"a ring of MaxDeeds", graphOf(mostDeeds, roundOf(upTo(0, mostDeeds-1)...)...)},
	}
}

// wrongDeeds are lists each of which is not DeedsOk for one reason alone; some would have an order, some a ring.
func wrongDeeds() []namedDeeds {
	with := func(change func(l []impl.Deed)) []impl.Deed {
		return changedDeeds(graphOf(3, pairsOf(0, 1, 0, 1, 1, 2, 1, 2)...), change)
	}
	l := []namedDeeds{
		{"one more than MaxDeeds", besideEachOther(mostDeeds + 1)},
		{"one more than MaxDeeds in a row", graphOf(mostDeeds+1, aheadOfEachOther(upTo(0, mostDeeds)...)...)},
		{"a ring of one more than MaxDeeds", graphOf(mostDeeds+1, roundOf(upTo(0, mostDeeds)...)...)},
		{"far too many", behindEachOther(1000)},
		{"one more than MaxActs Reads", with(func(l []impl.Deed) { l[0].Reads = spansOf(upTo(1, mostActs+1)...) })},
		{"many Reads", with(func(l []impl.Deed) { l[0].Reads = spansOf(sameOf(1000, 1)...) })},
		{"one more than MaxActs Writes", with(func(l []impl.Deed) { l[2].Writes = intItems(upTo(1, mostActs+1)...) })},
		{"one key too often", with(func(l []impl.Deed) { l[2].Writes = intItems(sameOf(mostActs+1, 1)...) })},
		{"a zero deed", with(func(l []impl.Deed) { l[1] = impl.Deed{} })},
		{"zero deeds", make([]impl.Deed, 2)},
		{"two Begun alike", with(func(l []impl.Deed) { l[2].Begun = l[1].Begun })},
		{"two Ended alike", with(func(l []impl.Deed) { l[2].Ended = l[0].Ended })},
		{"a Begun that is an Ended", with(func(l []impl.Deed) { l[2].Begun = l[0].Ended })},
		{"From behind To", with(func(l []impl.Deed) { l[0].Reads[1] = spanOf(3, 2) })},
		{"a ring with a wrong Begun", changedDeeds(graphOf(2, roundOf(0, 1)...), func(l []impl.Deed) { l[0].Begun = 0 })},
		{"a ring with two Ended alike", changedDeeds(graphOf(2, roundOf(0, 1)...), func(l []impl.Deed) { l[0].Ended = l[1].Ended })},
		{"a ring with a wrong key", changedDeeds(graphOf(2, roundOf(0, 1)...), func(l []impl.Deed) { l[1] = writingKeys(l[1], impl.Item{}) })},
		{"a ring with a wrong span", changedDeeds(graphOf(2, roundOf(0, 1)...), func(l []impl.Deed) { l[1] = readingSpans(l[1], impl.Span{}) })},
	}
	for _, begun := range []int{math.MinInt, -1, 0} {
		l = append(l, namedDeeds{"a Begun", with(func(l []impl.Deed) { l[0].Begun = begun })}, namedDeeds{"the last Begun", with(func(l []impl.Deed) { l[2].Begun = begun })})
	}
	for _, end := range []int{math.MinInt, -1, 0} {
		l = append(l, namedDeeds{"an Ended", with(func(l []impl.Deed) { l[1].Ended = end })})
	}
	for i, key := range noKeys() {
		if i%9 == 0 || i > len(noKeys())-4 {
			l = append(l,
				namedDeeds{"a wrong From", with(func(l []impl.Deed) { l[0].Reads[0].From = key })},
				namedDeeds{"a wrong To", with(func(l []impl.Deed) { l[1].Reads[1].To = key })},
				namedDeeds{"a wrong key", with(func(l []impl.Deed) { l[2].Writes[1] = key })})
		}
	}
	return l
}

// someMoments are n deeds without acts, of which at most so many are under way at a time; the seed fixes them.
func someMoments(n int, most int, seed uint64) []impl.Deed {
	var l []impl.Deed
	var open []int
	moment := 0
	for len(l) < n || len(open) > 0 {
		seed++
		x := someBits(1, seed*7919)[0]
		moment += 1 + int(x>>50%2)
		if len(open) == 0 || len(l) < n && len(open) < most && x>>20%2 == 0 {
			open = append(open, len(l))
			l = append(l, impl.Deed{Begun: moment, Xid: int(x>>40%5) - 2})
			continue
		}
		at := int(x >> 30 % uint64(len(open)))
		l[open[at]].Ended = moment
		open = append(open[:at], open[at+1:]...)
	}
	return l
}

// someDeeds are n deeds in no order in particular, at most so many at a time, with at most so many acts each.
func someDeeds(n int, most int, acts int, seed uint64) []impl.Deed {
	spans, keys := edgeSpans(), edgeKeys()
	var l []impl.Deed
	for i, d := range someMoments(n, most, seed) {
		x := someBits(1, seed*131+uint64(i))[0]
		for _, y := range someBits(int(x>>20%uint64(acts+1)), x) {
			if y>>8%3 > 0 {
				d = readingSpans(d, spans[y>>20%uint64(len(spans))])
			}
			if y>>9%3 > 0 {
				d = writingKeys(d, keys[y>>40%uint64(len(keys))])
			}
		}
		l = slices.Insert(l, int(x>>50%uint64(len(l)+1)), d)
	}
	return cloneDeeds(l)
}

func wantDeedsOk(t *testing.T, name string, l []impl.Deed, want bool) {
	t.Helper()
	if got := impl.DeedsOk(l); got != want {
		t.Errorf("%s: DeedsOk of %d deeds is %t, want %t", name, len(l), got, want)
	}
}

func wantPairs(t *testing.T, name string, l []impl.Deed, want ...[2]int) {
	t.Helper()
	if got := impl.GraphEdges(l); !slices.Equal(got, want) {
		t.Errorf("%s: GraphEdges are %v, want %v", name, got, want)
	}
}

func wantTurns(t *testing.T, name string, l []impl.Deed, want ...int) {
	t.Helper()
	if got, ok := impl.GraphOrder(l); !ok || !slices.Equal(got, want) {
		t.Errorf("%s: GraphOrder is %v, %t, want %v", name, got, ok, want)
	}
}

// wantNoTurns looks at the false, and that nothing stands beside it.
func wantNoTurns(t *testing.T, name string, l []impl.Deed) {
	t.Helper()
	if got, ok := impl.GraphOrder(l); ok || len(got) != 0 {
		t.Errorf("%s: GraphOrder is %v, %t, want nothing and false", name, got, ok)
	}
}

func wantRound(t *testing.T, name string, l []impl.Deed, want ...int) {
	t.Helper()
	if got := impl.GraphRing(l); !slices.Equal(got, want) {
		t.Errorf("%s: GraphRing is %v, want %v", name, got, want)
	}
}

func wantSerial(t *testing.T, name string, l []impl.Deed, want bool, order ...int) {
	t.Helper()
	if got := impl.GraphSerial(l, order); got != want {
		t.Errorf("%s: GraphSerial of %d deeds by %v is %t, want %t", name, len(l), order, got, want)
	}
}
