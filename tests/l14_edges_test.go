package tests

import (
	"fmt"
	"slices"
	"testing"

	"loop.example/g00252/impl"
)

// momentsOfTwo are all ways in which two deeds may lie in time.
func momentsOfTwo() [][2]impl.Deed {
	var all [][2]impl.Deed
	for _, at := range allTurns(4) {
		a, b := deedOf(1+at[0], 1+at[1]), deedOf(1+at[2], 1+at[3])
		if a.Begun < a.Ended && b.Begun < b.Ended {
			all = append(all, [2]impl.Deed{a, b})
		}
	}
	return all
}

// wantPairOfTwo asks with both deeds in both places, and with others around them: first stands ahead of second, and not the other way round.
func wantPairOfTwo(t *testing.T, name string, first impl.Deed, second impl.Deed) {
	t.Helper()
	other := func(moment int) impl.Deed { return writing(reading(deedOf(moment, moment+1), 501), 502+moment) }
	wantPairs(t, name, []impl.Deed{first, second}, [2]int{0, 1})
	wantPairs(t, name+", the other way round", []impl.Deed{second, first}, [2]int{1, 0})
	wantPairs(t, name+", others around", []impl.Deed{other(100), first, other(102), other(104), second, other(106)}, [2]int{1, 4})
	wantPairs(t, name+", others around, the other way round", []impl.Deed{second, other(100), other(102), first}, [2]int{3, 0})
}

func wantNoPairOfTwo(t *testing.T, name string, a impl.Deed, b impl.Deed) {
	t.Helper()
	wantPairs(t, name, []impl.Deed{a, b})
	wantPairs(t, name+", the other way round", []impl.Deed{b, a})
}

func TestTwoThatWriteOneKeyGoByTheirEnds(t *testing.T) {
	if n := len(momentsOfTwo()); n != 6 {
		t.Fatalf("%d ways", n)
	}
	for _, two := range momentsOfTwo() {
		a, b := writing(two[0], 5), writing(two[1], 5)
		name := fmt.Sprint("two that write one key at ", two)
		if a.Ended < b.Ended {
			wantPairOfTwo(t, name, a, b)
		} else {
			wantPairOfTwo(t, name, b, a)
		}
	}
}

// A reader stands behind a writer that ended ahead of its Begun alone: in one of the six ways.
func TestOneThatReadsWhatTheOtherWrites(t *testing.T) {
	behind := 0
	for _, two := range momentsOfTwo() {
		writer, reader := writing(two[0], 5), reading(two[1], 5)
		name := fmt.Sprint("a writer and a reader at ", two)
		if writer.Ended < reader.Begun {
			behind++
			wantPairOfTwo(t, name, writer, reader)
		} else {
			wantPairOfTwo(t, name, reader, writer)
		}
	}
	if behind != 1 {
		t.Errorf("%d ways in which the reader is behind", behind)
	}
}

func TestReasonsPlainly(t *testing.T) {
	wantPairs(t, "both write", []impl.Deed{writing(deedOf(1, 4), 5), writing(deedOf(2, 3), 5)}, [2]int{1, 0})
	wantPairs(t, "one reads what was there", []impl.Deed{writing(deedOf(1, 2), 5), reading(deedOf(3, 4), 5)}, [2]int{0, 1})
	wantPairs(t, "one reads what was not there yet", []impl.Deed{writing(deedOf(1, 3), 5), reading(deedOf(2, 4), 5)}, [2]int{1, 0})
	wantPairs(t, "one reads what came long behind", []impl.Deed{writing(deedOf(3, 4), 5), reading(deedOf(1, 2), 5)}, [2]int{1, 0})
}

func TestNoReasonNoPair(t *testing.T) {
	for _, two := range momentsOfTwo() {
		a, b := two[0], two[1]
		wantNoPairOfTwo(t, "no acts", a, b)
		wantNoPairOfTwo(t, "both read", reading(a, 5), reading(b, 5))
		wantNoPairOfTwo(t, "one writes alone", writing(a, 5), b)
		wantNoPairOfTwo(t, "one reads alone", reading(a, 5), b)
		wantNoPairOfTwo(t, "both write, other keys", writing(a, 5, 7), writing(b, 4, 6, 8))
		wantNoPairOfTwo(t, "one reads another key", writing(a, 5), reading(b, 4, 6))
		wantNoPairOfTwo(t, "each reads what it writes itself", writing(reading(a, 5), 5), writing(reading(b, 6), 6))
		wantNoPairOfTwo(t, "a span around which is written", readingSpans(a, spanOf(3, 7)), writing(b, 1, 2, 8, 9))
	}
}

func TestOneThatReadsWhatItWroteItself(t *testing.T) {
	own := writing(reading(deedOf(3, 6), 5), 5)
	wantPairs(t, "alone", []impl.Deed{own})
	wantPairs(t, "a whole span, alone", []impl.Deed{writing(readingSpans(deedOf(3, 6), spanOf(0, 9)), 1, 5, 9)})
	wantPairOfTwo(t, "a reader ahead of its end", reading(deedOf(1, 9), 5), own)
	wantPairOfTwo(t, "a reader behind its end", own, reading(deedOf(7, 9), 5))
	wantPairOfTwo(t, "a writer ahead of its Begun", writing(deedOf(1, 2), 5), own)
	wantPairOfTwo(t, "a writer behind its end", own, writing(deedOf(1, 9), 5))
	beside := writing(deedOf(1, 4), 5)
	wantPairs(t, "a writer that ended while it was under way", []impl.Deed{own, beside}, pairsOf(0, 1, 1, 0)...)
	wantPairs(t, "a writer that ended while it was under way", []impl.Deed{beside, own}, pairsOf(0, 1, 1, 0)...)
}

// However many reasons there are for one pair, by however many keys, it is told once.
func TestAPairOfSeveralReasonsIsToldOnce(t *testing.T) {
	wantPairOfTwo(t, "both write, and the second one reads", writing(deedOf(1, 2), 5), writing(reading(deedOf(3, 4), 5), 5))
	wantPairOfTwo(t, "both write, and the first one reads", writing(reading(deedOf(1, 2), 5), 5), writing(deedOf(3, 4), 5))
	wantPairOfTwo(t, "all three", writing(reading(deedOf(1, 2), 5, 6), 5, 7), writing(reading(deedOf(3, 4), 5, 7), 5, 6))
	wantPairOfTwo(t, "many keys", writing(deedOf(1, 2), upTo(1, 50)...), writing(readingSpans(deedOf(3, 4), spanOf(0, 99)), upTo(20, 70)...))
	wantPairOfTwo(t, "one key twice", writing(deedOf(1, 2), 5, 5), writing(deedOf(3, 4), 5, 6, 5))
	wantPairOfTwo(t, "one key by several spans", writing(deedOf(1, 2), 5), readingSpans(deedOf(3, 4), spanOf(5, 5), spanOf(1, 9), spanOf(5, 5), spanOf(4, 5)))
	wantPairOfTwo(t, "one key MaxActs times", writing(deedOf(1, 2), sameOf(mostActs, 5)...), writing(reading(deedOf(3, 4), sameOf(mostActs, 5)...), sameOf(mostActs, 5)...))
}

func TestPairsBothWaysRound(t *testing.T) {
	skew := []impl.Deed{writing(reading(deedOf(1, 3), 1), 2), writing(reading(deedOf(2, 4), 2), 1)}
	wantPairs(t, "each reads what the other one writes", skew, pairsOf(0, 1, 1, 0)...)
	lost := []impl.Deed{writing(reading(deedOf(1, 3), 1), 1), writing(reading(deedOf(2, 4), 1), 1)}
	wantPairs(t, "both read and write one key", lost, pairsOf(0, 1, 1, 0)...)
	wantPairs(t, "the same, one behind the other", []impl.Deed{writing(reading(deedOf(1, 2), 1), 1), writing(reading(deedOf(3, 4), 1), 1)}, [2]int{0, 1})
}

// A pair is there by the second key of the Writes, or of the Reads, as by the first.
func TestPairsByAnyOfTheActs(t *testing.T) {
	for _, n := range []int{1, 2, 3, 17, mostActs} {
		for _, at := range []int{0, 1, n / 2, n - 2, n - 1} {
			if at < 0 || at >= n {
				continue
			}
			many := upTo(1000, 1000+n-1)
			many[at] = 5
			wantPairOfTwo(t, "one of the Writes is read", writing(deedOf(1, 2), many...), reading(deedOf(3, 4), 5))
			wantPairOfTwo(t, "one of the Reads is written", reading(deedOf(1, 2), many...), writing(deedOf(3, 4), 5))
			wantPairOfTwo(t, "one of the Writes is written", writing(deedOf(1, 2), many...), writing(deedOf(3, 4), 1, 5, 2))
			slices.Reverse(many)
			wantPairOfTwo(t, "one of the Writes is written, falling", writing(deedOf(1, 2), many...), writing(deedOf(3, 4), 5))
			wantPairOfTwo(t, "one of the Reads is written, falling", reading(deedOf(1, 2), many...), writing(deedOf(3, 4), 5))
		}
	}
}

func TestPairsAtTheEndsOfASpan(t *testing.T) {
	reader := readingSpans(deedOf(1, 2), spanOf(10, 20))
	for key := 5; key < 26; key++ {
		writer := writing(deedOf(3, 4), key)
		if key >= 10 && key <= 20 {
			wantPairOfTwo(t, fmt.Sprint("key ", key), reader, writer)
		} else {
			wantNoPairOfTwo(t, fmt.Sprint("key ", key), reader, writer)
		}
	}
	texts := readingSpans(deedOf(1, 2), textSpan("b", "bb"))
	for _, s := range []string{"b", "b\x00", "ba", "baz", "bb"} {
		wantPairOfTwo(t, "a text "+s, texts, writingKeys(deedOf(3, 4), textItem(s)))
	}
	for _, s := range []string{"", "a", "azz", "bb\x00", "bba", "c"} {
		wantNoPairOfTwo(t, "a text "+s, texts, writingKeys(deedOf(3, 4), textItem(s)))
	}
}

// One reader of each span of keys of all kinds, and a writer of each key beside it.
func TestPairsOfAllSpansOfRisingKeys(t *testing.T) {
	keys := risingKeys()
	if len(keys) > mostDeeds-1 {
		keys = keys[:mostDeeds-1]
	}
	for from := range keys {
		for to := from; to < len(keys); to += 1 + (to-from)/3 {
			l := besideEachOther(1 + len(keys))
			l[0].Reads = []impl.Span{{From: keys[from], To: keys[to]}}
			var want [][2]int
			for i, key := range keys {
				l[i+1].Writes = []impl.Item{key}
				if from <= i && i <= to {
					want = append(want, [2]int{0, i + 1})
				}
			}
			wantPairs(t, fmt.Sprint("the keys ", from, " to ", to), l, want...)
		}
	}
}

func TestPairsOfKeysOfDifferentKinds(t *testing.T) {
	keys := []impl.Item{intItem(1), floatItem(1), textItem("1"), textItem("\x01"), textItem(""), intItem(0), floatItem(0)}
	for i, a := range keys {
		for k, b := range keys {
			if i == k {
				wantPairOfTwo(t, "one key", writingKeys(deedOf(1, 2), a), writingKeys(deedOf(3, 4), b))
			} else {
				wantNoPairOfTwo(t, "two keys", writingKeys(deedOf(1, 2), a), writingKeys(deedOf(3, 4), b))
				wantNoPairOfTwo(t, "two keys, one is read", writingKeys(deedOf(1, 2), a), readingSpans(deedOf(3, 4), impl.Span{From: b, To: b}))
			}
		}
	}
	one, other := floatItem(impl.FloatOf(oneNaN)), floatItem(impl.FloatOf(oneNaN|1<<63|5))
	wantPairOfTwo(t, "NaNs are one key", writingKeys(deedOf(1, 2), one), writingKeys(deedOf(3, 4), other))
	wantPairOfTwo(t, "NaNs are one key, one is read", writingKeys(deedOf(1, 2), one), readingSpans(deedOf(3, 4), impl.Span{From: other, To: other}))
}

func TestPairsOfThreeThatWriteOneKey(t *testing.T) {
	for _, at := range allTurns(3) {
		l := besideEachOther(3)
		for i := range l {
			l[i] = writing(l[i], 5)
			l[i].Ended = 10 + at[i]
		}
		var want [][2]int
		for a := range 3 {
			for b := range 3 {
				if at[a] < at[b] {
					want = append(want, [2]int{a, b})
				}
			}
		}
		wantPairs(t, fmt.Sprint("ends ", at), l, want...)
	}
}

func TestPairsAreThoseOfTheGraph(t *testing.T) {
	for n := range 5 {
		for _, pairs := range allGraphs(n) {
			wantPairs(t, "a graph", graphOf(n, pairs...), pairs...)
		}
	}
	for seed := range uint64(60) {
		n := 5 + int(seed*3%40)
		pairs := someGraph(n, 2+int(seed%9), seed+11)
		want := slices.Clone(pairs)
		slices.Reverse(pairs)
		wantPairs(t, "a graph of many", graphOf(n, pairs...), want...)
	}
}

func TestPairsOfWrongDeedsAreNone(t *testing.T) {
	for _, of := range wrongDeeds() {
		wantPairs(t, of.name, of.l)
	}
}

func TestPairsAreAsTheDocumentSays(t *testing.T) {
	pairs := 0
	for seed := range uint64(1500) {
		l := someDeeds(1+int(seed%9), 1+int(seed%5), 1+int(seed%4), seed)
		want := plainGraphEdges(l)
		pairs += len(want)
		wantPairs(t, fmt.Sprint("deeds of seed ", seed), l, want...)
	}
	for seed := range uint64(10) {
		l := someDeeds(mostDeeds, 3+int(seed), 1+int(seed%4), seed+5000)
		wantPairs(t, fmt.Sprint("MaxDeeds deeds of seed ", seed), l, plainGraphEdges(l)...)
	}
	for _, of := range rightDeeds() {
		wantPairs(t, of.name, of.l, plainGraphEdges(of.l)...)
	}
	if pairs < 5000 {
		t.Errorf("not much was asked: %d pairs", pairs)
	}
}
