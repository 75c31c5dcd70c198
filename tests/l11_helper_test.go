package tests

import (
	"bytes"
	"cmp"
	"slices"
	"testing"

	"loop.example/g00252/impl"
)

// Chapter 11's limits as the document names them, in numbers.
const (
	mostFan   = 4
	mostNodes = 300
	lastId    = 255
)

func entryOf(n int, id int) impl.Entry {
	return impl.Entry{Key: intItem(n), Id: id}
}

// entriesOf have these whole numbers as keys, and the Id 0.
func entriesOf(numbers ...int) []impl.Entry {
	var l []impl.Entry
	for _, n := range numbers {
		l = append(l, entryOf(n, 0))
	}
	return l
}

func leafOf(numbers ...int) impl.Node {
	return impl.Node{Leaf: true, Entries: entriesOf(numbers...)}
}

func nodeOf(kids []int, numbers ...int) impl.Node {
	return impl.Node{Entries: entriesOf(numbers...), Kids: kids}
}

func treeOf(root int, nodes ...impl.Node) impl.Tree {
	return impl.Tree{Nodes: nodes, Root: root}
}

// twoLevels are three leaves and a node above them.
func twoLevels() impl.Tree {
	return treeOf(3, leafOf(1, 5), leafOf(10, 15), leafOf(20, 25), nodeOf([]int{0, 1, 2}, 10, 20))
}

// threeLevels are six leaves, two nodes above them and one above these; 20 and 30 stand above alone.
func threeLevels() impl.Tree {
	return treeOf(8,
		leafOf(1, 5), leafOf(10, 15), leafOf(22, 25), leafOf(31, 35), leafOf(40, 45), leafOf(50, 55),
		nodeOf([]int{0, 1, 2}, 10, 20), nodeOf([]int{3, 4, 5}, 40, 50), nodeOf([]int{6, 7}, 30))
}

// firstLeaf is the least place of a leaf below the node m of the first of these levels.
func firstLeaf(counts []int, m int) int {
	for i := 0; i+1 < len(counts); i++ {
		m = m * counts[i+1] / counts[i]
	}
	return m
}

// levelled has so many nodes at each level, from Root, which is 0, down; a leaf has n whole numbers from ten times its place on.
func levelled(n int, counts ...int) impl.Tree {
	var t impl.Tree
	for level, count := range counts {
		behind := len(t.Nodes) + count
		for m := range count {
			if level == len(counts)-1 {
				t.Nodes = append(t.Nodes, leafOf(upTo(10*m, 10*m+n-1)...))
				continue
			}
			var node impl.Node
			from, to := m*counts[level+1]/count, (m+1)*counts[level+1]/count
			for kid := from; kid < to; kid++ {
				node.Kids = append(node.Kids, behind+kid)
				if kid > from {
					node.Entries = append(node.Entries, entryOf(10*firstLeaf(counts[level+1:], kid), 0))
				}
			}
			t.Nodes = append(t.Nodes, node)
		}
	}
	return t
}

// The nodes of a crowded tree that are no leaves.
const crowdedAbove = 1 + 4 + 16 + 50

// crowdedTree has nearly as many nodes as there may be, or just as many, or more. Right above the leaves some nodes have all
// the kids that they may have, above these none has.
func crowdedTree(n int, nodes int) impl.Tree {
	return levelled(n, 1, 4, 16, 50, nodes-crowdedAbove)
}

// renumbered is the same tree with its nodes at other places; the seed fixes which.
func renumbered(t impl.Tree, seed uint64) impl.Tree {
	x := someBits(len(t.Nodes), seed)
	to := upTo(0, len(t.Nodes)-1)
	for i := range to {
		j := int(x[i] >> 20 % uint64(i+1))
		to[i], to[j] = to[j], to[i]
	}
	after := impl.Tree{Nodes: make([]impl.Node, len(t.Nodes)), Root: to[t.Root]}
	for i, n := range cloneTree(t).Nodes {
		for k, kid := range n.Kids {
			n.Kids[k] = to[kid]
		}
		after.Nodes[to[i]] = n
	}
	return after
}

func cloneEntries(l []impl.Entry) []impl.Entry {
	var c []impl.Entry
	for _, e := range l {
		e.Key.T = bytes.Clone(e.Key.T)
		c = append(c, e)
	}
	return slices.Clip(c)
}

func cloneTree(t impl.Tree) impl.Tree {
	c := impl.Tree{Root: t.Root}
	for _, n := range t.Nodes {
		c.Nodes = append(c.Nodes, impl.Node{Leaf: n.Leaf, Entries: cloneEntries(n.Entries), Kids: slices.Clone(n.Kids)})
	}
	c.Nodes = slices.Clip(c.Nodes)
	return c
}

// changedTree is a copy with one thing done to it.
func changedTree(t impl.Tree, change func(t *impl.Tree)) impl.Tree {
	c := cloneTree(t)
	change(&c)
	return c
}

func sameEntry(a impl.Entry, b impl.Entry) bool {
	return a.Id == b.Id && sameItem(a.Key, b.Key)
}

func sameEntries(a []impl.Entry, b []impl.Entry) bool {
	return slices.EqualFunc(a, b, sameEntry)
}

func sameNode(a impl.Node, b impl.Node) bool {
	return a.Leaf == b.Leaf && sameEntries(a.Entries, b.Entries) && slices.Equal(a.Kids, b.Kids)
}

func sameTree(a impl.Tree, b impl.Tree) bool {
	return a.Root == b.Root && slices.EqualFunc(a.Nodes, b.Nodes, sameNode)
}

func plainIsEntry(e impl.Entry) bool {
	return impl.KeyOk(e.Key) && e.Id >= 0 && e.Id <= lastId
}

// plainEntryOrder goes by the bytes of the keys, which compare as the keys do.
func plainEntryOrder(a impl.Entry, b impl.Entry) int {
	return cmp.Or(bytes.Compare(plainKey(a.Key), plainKey(b.Key)), cmp.Compare(a.Id, b.Id))
}

func plainLess(a impl.Entry, b impl.Entry) bool {
	return plainEntryOrder(a, b) < 0
}

func plainAscending(l []impl.Entry) bool {
	for i := range l {
		if i > 0 && !plainLess(l[i-1], l[i]) {
			return false
		}
	}
	return true
}

// plainDepths has of each node how many steps it is from Root, if each is come to just once.
func plainDepths(t impl.Tree) ([]int, bool) {
	depths := sameOf(len(t.Nodes), -1)
	if t.Root < 0 || t.Root >= len(t.Nodes) {
		return nil, false
	}
	depths[t.Root] = 0
	for come := []int{t.Root}; len(come) > 0; come = come[1:] {
		for _, kid := range t.Nodes[come[0]].Kids {
			if kid < 0 || kid >= len(t.Nodes) || depths[kid] >= 0 {
				return nil, false
			}
			depths[kid] = depths[come[0]] + 1
			come = append(come, kid)
		}
	}
	return depths, !slices.Contains(depths, -1)
}

// plainBelow are all entries at and below a node.
func plainBelow(t impl.Tree, number int) []impl.Entry {
	n := t.Nodes[number]
	all := slices.Clone(n.Entries)
	for _, kid := range n.Kids {
		all = append(all, plainBelow(t, kid)...)
	}
	return all
}

func plainNodeOk(n impl.Node) bool {
	if len(n.Entries) > mostFan || slices.ContainsFunc(n.Entries, func(e impl.Entry) bool { return !plainIsEntry(e) }) {
		return false
	}
	if n.Leaf {
		return len(n.Kids) == 0 && plainAscending(n.Entries)
	}
	return len(n.Entries) > 0 && len(n.Kids) == len(n.Entries)+1 && plainAscending(n.Entries)
}

// plainParted says whether each entry of a node parts what is below the kids beside it.
func plainParted(t impl.Tree, n impl.Node) bool {
	if n.Leaf {
		return true
	}
	for i, e := range n.Entries {
		for _, below := range plainBelow(t, n.Kids[i]) {
			if !plainLess(below, e) {
				return false
			}
		}
		for _, below := range plainBelow(t, n.Kids[i+1]) {
			if plainLess(below, e) {
				return false
			}
		}
	}
	return true
}

// plainTreeOk is what the document says of TreeOk, word by word.
func plainTreeOk(t impl.Tree) bool {
	if len(t.Nodes) < 1 || len(t.Nodes) > mostNodes {
		return false
	}
	depths, once := plainDepths(t)
	if !once {
		return false
	}
	atLeaves := -1
	for i, n := range t.Nodes {
		if !plainNodeOk(n) || n.Leaf && atLeaves >= 0 && depths[i] != atLeaves {
			return false
		}
		if n.Leaf {
			atLeaves = depths[i]
		}
	}
	return !slices.ContainsFunc(t.Nodes, func(n impl.Node) bool { return !plainParted(t, n) })
}

// plainTreeAll puts the entries of all leaves together and sorts them.
func plainTreeAll(t impl.Tree) []impl.Entry {
	var all []impl.Entry
	if !plainTreeOk(t) {
		return nil
	}
	for _, n := range t.Nodes {
		if n.Leaf {
			all = append(all, n.Entries...)
		}
	}
	slices.SortFunc(all, plainEntryOrder)
	return all
}

func plainHeight(t impl.Tree) int {
	if !plainTreeOk(t) {
		return 0
	}
	depths, _ := plainDepths(t)
	return slices.Max(depths) + 1
}

func plainFind(t impl.Tree, key impl.Item) []int {
	var ids []int
	for _, e := range plainTreeAll(t) {
		if impl.KeyOk(key) && bytes.Equal(plainKey(e.Key), plainKey(key)) {
			ids = append(ids, e.Id)
		}
	}
	return ids
}

func plainSpan(t impl.Tree, from impl.Item, to impl.Item) []impl.Entry {
	var l []impl.Entry
	for _, e := range plainTreeAll(t) {
		if impl.InSpan(from, to, e.Key) {
			l = append(l, e)
		}
	}
	return l
}

func plainHasEntry(t impl.Tree, e impl.Entry) bool {
	return slices.ContainsFunc(plainTreeAll(t), func(other impl.Entry) bool { return plainEntryOrder(e, other) == 0 })
}

func plainNotAbove(n impl.Node, e impl.Entry) int {
	i := 0
	for _, other := range n.Entries {
		if !plainLess(e, other) {
			i++
		}
	}
	return i
}

// plainSplit parts what has one too many at number; it tells the entry that goes up and the new node's number, -1 if none was split.
func plainSplit(t *impl.Tree, number int) (impl.Entry, int) {
	n := t.Nodes[number]
	if len(n.Entries) <= mostFan {
		return impl.Entry{}, -1
	}
	kept := impl.Node{Leaf: n.Leaf, Entries: slices.Clone(n.Entries[:2])}
	other := impl.Node{Leaf: n.Leaf, Entries: slices.Clone(n.Entries[2:])}
	if !n.Leaf {
		kept.Kids, other.Kids = slices.Clone(n.Kids[:3]), slices.Clone(n.Kids[3:])
		other.Entries = slices.Clone(n.Entries[3:])
	}
	t.Nodes[number] = kept
	t.Nodes = append(t.Nodes, other)
	return n.Entries[2], len(t.Nodes) - 1
}

// plainAddBelow puts an entry in below a node; it tells what comes into the node above, as plainSplit does.
func plainAddBelow(t *impl.Tree, number int, e impl.Entry) (impl.Entry, int) {
	i := plainNotAbove(t.Nodes[number], e)
	if t.Nodes[number].Leaf {
		t.Nodes[number].Entries = slices.Insert(t.Nodes[number].Entries, i, e)
		return plainSplit(t, number)
	}
	up, other := plainAddBelow(t, t.Nodes[number].Kids[i], e)
	if other < 0 {
		return up, other
	}
	t.Nodes[number].Entries = slices.Insert(t.Nodes[number].Entries, i, up)
	t.Nodes[number].Kids = slices.Insert(t.Nodes[number].Kids, i+1, other)
	return plainSplit(t, number)
}

// plainTreeAdd is what the document says of TreeAdd, step by step, on a copy.
func plainTreeAdd(t impl.Tree, key impl.Item, id int) (impl.Tree, bool) {
	e := impl.Entry{Key: key, Id: id}
	if !plainTreeOk(t) || !plainIsEntry(e) || plainHasEntry(t, e) {
		return impl.Tree{}, false
	}
	after := cloneTree(t)
	if up, other := plainAddBelow(&after, after.Root, e); other >= 0 {
		after.Nodes = append(after.Nodes, impl.Node{Entries: []impl.Entry{up}, Kids: []int{after.Root, other}})
		after.Root = len(after.Nodes) - 1
	}
	if len(after.Nodes) > mostNodes {
		return impl.Tree{}, false
	}
	return after, true
}

func plainTreeDrop(t impl.Tree, key impl.Item, id int) (impl.Tree, bool) {
	e := impl.Entry{Key: key, Id: id}
	if !plainTreeOk(t) || !plainIsEntry(e) || !plainHasEntry(t, e) {
		return impl.Tree{}, false
	}
	after := cloneTree(t)
	for i, n := range after.Nodes {
		if n.Leaf {
			after.Nodes[i].Entries = slices.DeleteFunc(n.Entries, func(other impl.Entry) bool { return plainEntryOrder(e, other) == 0 })
		}
	}
	return after, true
}

// namedTree is a tree of a test's table.
type namedTree struct {
	name string
	t    impl.Tree
}

func wantTree(t *testing.T, name string, got impl.Tree, ok bool, want impl.Tree) {
	t.Helper()
	if !ok || !sameTree(got, want) {
		t.Errorf("%s: %v, %t, want %v", name, got, ok, want)
	}
}

// wantNoTree looks at the false, and that the zero value stands beside it.
func wantNoTree(t *testing.T, name string, got impl.Tree, ok bool) {
	t.Helper()
	if ok || len(got.Nodes) != 0 || got.Root != 0 {
		t.Errorf("%s: %v, %t, want the zero value and false", name, got, ok)
	}
}

// wantTreeOrNone holds an answer against what the document's words give.
func wantTreeOrNone(t *testing.T, name string, got impl.Tree, ok bool, want impl.Tree, well bool) {
	t.Helper()
	if well {
		wantTree(t, name, got, ok, want)
		return
	}
	wantNoTree(t, name, got, ok)
}

func wantEntries(t *testing.T, name string, got []impl.Entry, want []impl.Entry) {
	t.Helper()
	if !sameEntries(got, want) {
		t.Errorf("%s: %v, want %v", name, got, want)
	}
}

func wantIds(t *testing.T, name string, tree impl.Tree, key impl.Item, want ...int) {
	t.Helper()
	if got := impl.TreeFind(tree, key); !slices.Equal(got, want) {
		t.Errorf("%s: TreeFind of %v is %v, want %v", name, key, got, want)
	}
}

// fewEntries are so few that some come again: few keys, some of one kind apart, with a few Ids.
func fewEntries(ids int) []impl.Entry {
	var l []impl.Entry
	for _, key := range fewKeys() {
		for id := range ids {
			l = append(l, impl.Entry{Key: key, Id: id * 17 % (lastId + 1)})
		}
	}
	return l
}

// someTree is what many puts and drops of few entries left, made by the plain reading; the seed fixes which.
func someTree(steps int, seed uint64) impl.Tree {
	tree := treeOf(0, leafOf())
	few := fewEntries(12)
	for _, x := range someBits(steps, seed) {
		e := few[x>>20%uint64(len(few))]
		after, ok := plainTreeAdd(tree, e.Key, e.Id)
		if x>>40%4 == 0 {
			after, ok = plainTreeDrop(tree, e.Key, e.Id)
		}
		if ok {
			tree = after
		}
	}
	return tree
}
