package tests

import (
	"fmt"
	"math"
	"slices"
	"testing"

	"loop.example/g00252/impl"
)

// treeModel is a tree beside what it has to have: the entries that were put in and not taken out, ascending.
type treeModel struct {
	tree impl.Tree
	in   []impl.Entry
}

func (m *treeModel) find(e impl.Entry) (int, bool) {
	return slices.BinarySearchFunc(m.in, e, plainEntryOrder)
}

// put puts an entry in, unless it is there.
func (m *treeModel) put(t *testing.T, e impl.Entry) {
	t.Helper()
	at, there := m.find(e)
	after, ok := impl.TreeAdd(m.tree, e.Key, e.Id)
	if ok == there {
		t.Fatalf("TreeAdd of %v, which is there: %t, is %t", e, there, ok)
	}
	if ok {
		m.tree, m.in = after, slices.Insert(m.in, at, e)
	}
}

// drop takes an entry out, if it is there.
func (m *treeModel) drop(t *testing.T, e impl.Entry) {
	t.Helper()
	at, there := m.find(e)
	after, ok := impl.TreeDrop(m.tree, e.Key, e.Id)
	if ok != there {
		t.Fatalf("TreeDrop of %v, which is there: %t, is %t", e, there, ok)
	}
	if ok {
		m.tree, m.in = after, slices.Delete(m.in, at, at+1)
	}
}

// check fails when the tree is not TreeOk, by the plain reading too, or tells other entries.
func (m *treeModel) check(t *testing.T, name string) {
	t.Helper()
	if !impl.TreeOk(m.tree) || !plainTreeOk(m.tree) {
		t.Fatalf("%s: is not TreeOk: %v", name, m.tree)
	}
	wantEntries(t, name, impl.TreeAll(m.tree), m.in)
}

// checkKeys looks at each key by itself, and at spans from it on.
func (m *treeModel) checkKeys(t *testing.T, name string, keys []impl.Item) {
	t.Helper()
	for i, key := range keys {
		wantIds(t, name, m.tree, key, idsIn(m.in, key)...)
		for _, to := range []impl.Item{key, keys[(i+1)%len(keys)], keys[(i*7+3)%len(keys)], keys[len(keys)-1]} {
			wantEntries(t, name, impl.TreeSpan(m.tree, key, to), entriesIn(m.in, key, to))
		}
	}
}

func idsIn(l []impl.Entry, key impl.Item) []int {
	var ids []int
	for _, e := range l {
		if sameItem(e.Key, key) {
			ids = append(ids, e.Id)
		}
	}
	return ids
}

func entriesIn(l []impl.Entry, from impl.Item, to impl.Item) []impl.Entry {
	var in []impl.Entry
	for _, e := range l {
		if impl.ItemCompare(from, e.Key) <= 0 && impl.ItemCompare(e.Key, to) <= 0 {
			in = append(in, e)
		}
	}
	return in
}

// namedOrder is an order in which the places 0 to n - 1 come.
type namedOrder struct {
	name string
	at   []int
}

func ordersOf(n int) []namedOrder {
	up := upTo(0, n-1)
	down := slices.Clone(up)
	slices.Reverse(down)
	var in, out, far []int
	for i := range n {
		in = append(in, []int{i / 2, n - 1 - i/2}[i%2])
		far = append(far, i*7%n)
	}
	out = slices.Clone(in)
	slices.Reverse(out)
	l := []namedOrder{{"ascending", up}, {"descending", down}, {"from the ends on", in}, {"from the middle on", out}}
	if n%7 != 0 {
		l = append(l, namedOrder{"in steps", far})
	}
	for seed := range uint64(3) {
		mixed := slices.Clone(up)
		for i, x := range someBits(n, seed+40) {
			j := int(x >> 20 % uint64(i+1))
			mixed[i], mixed[j] = mixed[j], mixed[i]
		}
		l = append(l, namedOrder{fmt.Sprint("mixed ", seed), mixed})
	}
	return l
}

// rowsOfEntries are lists of entries, ascending: whole numbers, one key with many Ids, keys of all kinds, few keys with some Ids.
func rowsOfEntries() [][]impl.Entry {
	var numbers, ids, kinds []impl.Entry
	for i := range 100 {
		numbers = append(numbers, entryOf(i*3-90, i*5%(lastId+1)))
		ids = append(ids, impl.Entry{Key: textItem("one"), Id: i*2 + 50})
	}
	for i, key := range risingKeys() {
		kinds = append(kinds, impl.Entry{Key: key, Id: lastId - i})
	}
	few := fewEntries(10)
	slices.SortFunc(few, plainEntryOrder)
	return [][]impl.Entry{numbers, ids, kinds, few}
}

func keysOf(l []impl.Entry) []impl.Item {
	keys := []impl.Item{intItem(math.MinInt)}
	for _, e := range l {
		if !sameItem(keys[len(keys)-1], e.Key) {
			keys = append(keys, e.Key)
		}
	}
	return append(keys, longText("\xFF"))
}

// All entries are put in, in one order, and taken out in another; at each step the tree has just what it has to have.
func TestTreesHaveWhatWasPutInOverManyOrders(t *testing.T) {
	for r, l := range rowsOfEntries() {
		orders := ordersOf(len(l))
		for i, puts := range orders {
			drops := orders[(i*3+r)%len(orders)]
			name := fmt.Sprintf("row %d, put %s, dropped %s", r, puts.name, drops.name)
			m := &treeModel{tree: impl.TreeNew()}
			for k, at := range puts.at {
				m.put(t, l[at])
				m.check(t, name)
				if k%40 == 39 {
					m.checkKeys(t, name, keysOf(l))
				}
			}
			wantEntries(t, name, m.in, l)
			nodes := len(m.tree.Nodes)
			for k, at := range drops.at {
				m.put(t, l[at])
				m.drop(t, l[at])
				m.drop(t, l[at])
				m.check(t, name)
				if k%40 == 39 {
					m.checkKeys(t, name, keysOf(l))
				}
			}
			if len(m.in) != 0 || len(m.tree.Nodes) != nodes {
				t.Errorf("%s: %d entries and %d nodes are left, there were %d", name, len(m.in), len(m.tree.Nodes), nodes)
			}
			for _, at := range puts.at[:20] {
				m.put(t, l[at])
			}
			m.check(t, name+", put again")
		}
	}
}

// Puts and drops of few entries one among the other, beside the plain reading of what each node has to have.
func TestTreesDoAsTheWordsSayOverManyCalls(t *testing.T) {
	few := fewEntries(14)
	most, mostHigh := 0, 0
	for seed := range uint64(12) {
		m := &treeModel{tree: impl.TreeNew()}
		plain := impl.TreeNew()
		for i, x := range someBits(250, seed+300) {
			e := few[x>>20%uint64(len(few))]
			plainStep, step := plainTreeAdd, (*treeModel).put
			if x>>44%5 < seed%3 {
				plainStep, step = plainTreeDrop, (*treeModel).drop
			}
			if after, ok := plainStep(plain, e.Key, e.Id); ok {
				plain = after
			}
			step(m, t, e)
			wantTree(t, fmt.Sprintf("the call %d of %d", i, seed), m.tree, true, plain)
			if i%10 == 0 {
				m.check(t, "on its way")
				m.checkKeys(t, "on its way", fewKeys())
			}
		}
		most, mostHigh = max(most, len(m.tree.Nodes)), max(mostHigh, impl.TreeHeight(m.tree))
	}
	if most < 30 || mostHigh < 4 {
		t.Errorf("at most %d nodes and a height of %d", most, mostHigh)
	}
}

// A tree that is filled as long as entries are taken has nearly MaxNodes nodes, and keeps what it has when one more is refused.
func TestATreeIsFilledUpToMaxNodes(t *testing.T) {
	for _, by := range []int{1, -1, 7919, 12347} {
		m := &treeModel{tree: impl.TreeNew()}
		next := func() impl.Entry {
			i := len(m.in) + 1
			return entryOf(i*by%20011, i%(lastId+1))
		}
		for {
			e := next()
			after, ok := impl.TreeAdd(m.tree, e.Key, e.Id)
			if !ok {
				break
			}
			at, _ := m.find(e)
			m.tree, m.in = after, slices.Insert(m.in, at, e)
			if len(m.in)%50 == 0 || len(m.tree.Nodes) > 290 {
				m.check(t, "on its way")
			}
		}
		m.check(t, "filled")
		if n := len(m.tree.Nodes); n < 296 || n > mostNodes || len(m.in) < 300 {
			t.Errorf("by %d: %d nodes, %d entries", by, n, len(m.in))
		}
		if e := next(); plainHasEntry(m.tree, e) {
			t.Errorf("by %d: %v is there", by, e)
		} else if _, well := plainTreeAdd(m.tree, e.Key, e.Id); well {
			t.Errorf("by %d: %v is refused, but it would have room in %d nodes", by, e, len(m.tree.Nodes))
		}
		first := m.in[0]
		m.drop(t, first)
		m.put(t, first)
		m.check(t, "filled, its first entry taken out and put in again")
	}
}
