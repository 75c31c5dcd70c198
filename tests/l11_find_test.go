package tests

import (
	"math"
	"slices"
	"testing"

	"loop.example/g00252/impl"
)

func TestTreeFindPlainly(t *testing.T) {
	one := changedTree(threeLevels(), func(t *impl.Tree) { t.Nodes[2].Entries[1].Id = 77 })
	for _, x := range []struct {
		name string
		t    impl.Tree
		key  impl.Item
		want []int
	}{
		{"a leaf without entries", treeOf(0, leafOf()), intItem(5), nil},
		{"the entry of a leaf", treeOf(0, impl.Node{Leaf: true, Entries: []impl.Entry{entryOf(5, 9)}}), intItem(5), []int{9}},
		{"below all", one, intItem(0), nil},
		{"above all", one, intItem(56), nil},
		{"between two of a leaf", one, intItem(23), nil},
		{"between two leaves", one, intItem(16), nil},
		{"an entry above alone", one, intItem(20), nil},
		{"Root's entry, which stands in no leaf", one, intItem(30), nil},
		{"the first of all", one, intItem(1), []int{0}},
		{"the last of all", one, intItem(55), []int{0}},
		{"in a leaf and above", one, intItem(40), []int{0}},
		{"with an Id of its own", one, intItem(25), []int{77}},
		{"another kind", one, floatItem(25), nil},
		{"several Ids over leaves", idsOver(intItem(5)), intItem(5), []int{0, 1, 7, 8, 200, 255}},
		{"several Ids of a text over leaves", idsOver(textItem("ab")), textItem("ab"), []int{0, 1, 7, 8, 200, 255}},
		{"a beginning of a key", idsOver(textItem("ab")), textItem("a"), nil},
		{"a key that goes on", idsOver(textItem("ab")), textItem("abc"), nil},
		{"beside several Ids, ahead", idsOver(textItem("ab")), intItem(math.MinInt), []int{9}},
		{"beside several Ids, behind", idsOver(textItem("ab")), longText("\xFF"), []int{3}},
		{"a leaf without entries between", emptyLeaves(1), intItem(10), nil},
		{"behind a leaf without entries", emptyLeaves(1), intItem(22), []int{0}},
	} {
		wantIds(t, x.name, x.t, x.key, x.want...)
	}
}

// Keys that differ in their kind alone, each with Ids of its own.
func TestTreeFindTellsKeysApart(t *testing.T) {
	keys := []impl.Item{intItem(0), intItem(1), floatItem(0), floatItem(1), floatItem(plainNaN()), textItem(""), textItem("\x00"), textItem("1"), longText("k")}
	tree := impl.TreeNew()
	for _, id := range []int{0, 100, 200} {
		for i, key := range keys {
			tree, _ = impl.TreeAdd(tree, key, id+i)
		}
	}
	for i, key := range keys {
		wantIds(t, "keys apart", tree, key, i, 100+i, 200+i)
	}
}

// All NaNs are one key, whatever bits they have; a -0 is no key, although it compares as +0 does.
func TestTreeFindOfNaNsAndNoughts(t *testing.T) {
	tree := treeOf(0, impl.Node{Leaf: true, Entries: []impl.Entry{{Key: floatItem(0), Id: 4}, {Key: floatItem(math.Inf(1)), Id: 5}, {Key: floatItem(plainNaN()), Id: 6}}})
	for _, bits := range strangeNaNs() {
		wantIds(t, "a NaN", tree, floatItem(math.Float64frombits(bits)), 6)
	}
	wantIds(t, "+0", tree, floatItem(0), 4)
	wantIds(t, "-0", tree, floatItem(minusNought()))
}

func TestTreeFindOfWhatIsNoKey(t *testing.T) {
	for _, key := range noKeys() {
		wantIds(t, "no key", twoLevels(), key)
		wantIds(t, "no key, of one leaf", treeOf(0, leafOf(0, 1)), key)
	}
}

func TestTreeFindAndTreeSpanOfTreesThatAreNotOk(t *testing.T) {
	for _, w := range slices.Concat(wrongTrees(), treesOfNoEntry()) {
		wantIds(t, w.name, w.t, intItem(5))
		wantIds(t, w.name, w.t, intItem(10))
		wantEntries(t, w.name, impl.TreeSpan(w.t, intItem(math.MinInt), longText("\xFF")), nil)
		for _, n := range w.t.Nodes[:min(len(w.t.Nodes), 10)] {
			for _, e := range n.Entries[:min(len(n.Entries), 10)] {
				wantIds(t, w.name, w.t, e.Key)
				wantEntries(t, w.name, impl.TreeSpan(w.t, e.Key, e.Key), nil)
			}
		}
	}
}

func TestTreeSpanPlainly(t *testing.T) {
	three := threeLevels()
	least, greatest := intItem(math.MinInt), longText("\xFF")
	for _, x := range []struct {
		name     string
		from, to impl.Item
		want     []impl.Entry
	}{
		{"all", least, greatest, entriesOf(1, 5, 10, 15, 22, 25, 31, 35, 40, 45, 50, 55)},
		{"from the first to the last", intItem(1), intItem(55), entriesOf(1, 5, 10, 15, 22, 25, 31, 35, 40, 45, 50, 55)},
		{"behind the first, ahead of the last", intItem(2), intItem(54), entriesOf(5, 10, 15, 22, 25, 31, 35, 40, 45, 50)},
		{"from at an entry, to at one", intItem(10), intItem(25), entriesOf(10, 15, 22, 25)},
		{"from below an entry, to above one", intItem(9), intItem(26), entriesOf(10, 15, 22, 25)},
		{"from above an entry, to below one", intItem(11), intItem(24), entriesOf(15, 22)},
		{"within one leaf", intItem(22), intItem(22), entriesOf(22)},
		{"over Root's entry", intItem(25), intItem(31), entriesOf(25, 31)},
		{"from an entry above alone", intItem(20), intItem(30), entriesOf(22, 25)},
		{"between two entries", intItem(16), intItem(21), nil},
		{"from equal to to, no entry", intItem(16), intItem(16), nil},
		{"from equal to to, an entry above alone", intItem(20), intItem(20), nil},
		{"from above to to", intItem(25), intItem(10), nil},
		{"from above to to by one", intItem(23), intItem(22), nil},
		{"below all", least, intItem(0), nil},
		{"above all", intItem(56), greatest, nil},
		{"an open beginning", least, intItem(10), entriesOf(1, 5, 10)},
		{"an open end", intItem(45), greatest, entriesOf(45, 50, 55)},
		{"to another kind", intItem(50), floatItem(math.Inf(-1)), entriesOf(50, 55)},
		{"from another kind", floatItem(math.Inf(-1)), greatest, nil},
		{"all whole numbers", least, intItem(math.MaxInt), entriesOf(1, 5, 10, 15, 22, 25, 31, 35, 40, 45, 50, 55)},
	} {
		wantEntries(t, x.name, impl.TreeSpan(three, x.from, x.to), x.want)
		wantEntries(t, x.name+", of a leaf without entries", impl.TreeSpan(impl.TreeNew(), x.from, x.to), nil)
	}
}

func TestTreeSpanOverIdsAndEmptyLeaves(t *testing.T) {
	tree := idsOver(floatItem(2))
	all := impl.TreeAll(tree)
	wantEntries(t, "one key", impl.TreeSpan(tree, floatItem(2), floatItem(2)), all[1:7])
	wantEntries(t, "up to one key", impl.TreeSpan(tree, intItem(math.MinInt), floatItem(2)), all[:7])
	wantEntries(t, "from one key on", impl.TreeSpan(tree, floatItem(2), longText("\xFF")), all[1:])
	wantEntries(t, "over empty leaves", impl.TreeSpan(emptyLeaves(1, 2, 3), intItem(5), intItem(40)), entriesOf(5, 40))
	wantEntries(t, "in empty leaves", impl.TreeSpan(emptyLeaves(1, 2, 3), intItem(10), intItem(39)), nil)
}

func TestTreeSpanOfWhatIsNoKey(t *testing.T) {
	low, high := intItem(math.MinInt), longText("\xFF")
	for _, key := range noKeys() {
		wantEntries(t, "from no key", impl.TreeSpan(twoLevels(), key, high), nil)
		wantEntries(t, "to no key", impl.TreeSpan(twoLevels(), low, key), nil)
		wantEntries(t, "from and to no key", impl.TreeSpan(twoLevels(), key, key), nil)
	}
}

// Each pair of keys of a tree of all kinds, those between entries too.
func TestTreeSpanIsAsTheDocumentSays(t *testing.T) {
	keys := risingKeys()
	tree := impl.TreeNew()
	for i := 0; i < len(keys); i += 2 {
		tree, _ = impl.TreeAdd(tree, keys[i], i)
		tree, _ = impl.TreeAdd(tree, keys[i], i+1)
	}
	if len(impl.TreeAll(tree)) < len(keys) {
		t.Fatalf("%d entries", len(impl.TreeAll(tree)))
	}
	for from := 0; from < len(keys); from += 3 {
		for to := 0; to < len(keys); to += 5 {
			var want []impl.Entry
			for i := from + from%2; i <= to; i += 2 {
				want = append(want, impl.Entry{Key: keys[i], Id: i}, impl.Entry{Key: keys[i], Id: i + 1})
			}
			wantEntries(t, "all kinds", impl.TreeSpan(tree, keys[from], keys[to]), want)
		}
	}
}

func TestTreeFindAndTreeSpanOfSomeTrees(t *testing.T) {
	for seed := range uint64(60) {
		tree := someTree(int(seed)*3, seed+700)
		inAll := 0
		for _, key := range fewKeys() {
			ids := impl.TreeFind(tree, key)
			if !slices.Equal(ids, plainFind(tree, key)) {
				t.Errorf("TreeFind of %v is %v, want %v", key, ids, plainFind(tree, key))
			}
			inAll += len(ids)
			for _, to := range fewKeys() {
				wantEntries(t, "some tree", impl.TreeSpan(tree, key, to), plainSpan(tree, key, to))
			}
		}
		if want := len(impl.TreeAll(tree)); inAll != want {
			t.Errorf("%d Ids of all keys, %d entries", inAll, want)
		}
	}
}
