package tests

import (
	"fmt"
	"math"
	"slices"

	"loop.example/g00252/impl"
)

// leavesBelow is a tree of one node, Root 0, with these entries, and of leaves without any below it.
func leavesBelow(entries ...impl.Entry) impl.Tree {
	t := treeOf(0, impl.Node{Entries: entries})
	for i := range len(entries) + 1 {
		t.Nodes[0].Kids = append(t.Nodes[0].Kids, i+1)
		t.Nodes = append(t.Nodes, leafOf())
	}
	return t
}

// idsOver is a tree in which one key's Ids stand over three leaves, between two other keys.
func idsOver(key impl.Item) impl.Tree {
	e := func(id int) impl.Entry { return impl.Entry{Key: key, Id: id} }
	return treeOf(3,
		impl.Node{Leaf: true, Entries: []impl.Entry{entryOf(math.MinInt, 9), e(0), e(1)}},
		impl.Node{Leaf: true, Entries: []impl.Entry{e(7), e(8)}},
		impl.Node{Leaf: true, Entries: []impl.Entry{e(200), e(lastId), {Key: longText("\xFF"), Id: 3}}},
		impl.Node{Entries: []impl.Entry{e(5), e(200)}, Kids: []int{0, 1, 2}},
	)
}

// sharedTree has keys, entries and leaves that stand on the same memory.
func sharedTree() impl.Tree {
	text := []byte("abcdef")
	key := func(n int) impl.Item { return impl.Item{Kind: impl.ItText, T: text[:n]} }
	entries := []impl.Entry{{Key: key(1), Id: 1}, {Key: key(2), Id: 2}, {Key: key(3), Id: 3}, {Key: key(4), Id: 4}, {Key: key(5), Id: 5}}
	kids := []int{0, 1, 2}
	return treeOf(3,
		impl.Node{Leaf: true, Entries: entries[:2]},
		impl.Node{Leaf: true, Entries: entries[2:3]},
		impl.Node{Leaf: true, Entries: entries[4:]},
		impl.Node{Entries: entries[2:4], Kids: kids},
	)
}

// emptyLeaves is threeLevels with no entries in these leaves.
func emptyLeaves(numbers ...int) impl.Tree {
	return changedTree(threeLevels(), func(t *impl.Tree) {
		for _, i := range numbers {
			t.Nodes[i].Entries = nil
		}
	})
}

// rightTrees are trees that are as the chapter wants them, at its limits too.
func rightTrees() []namedTree {
	l := []namedTree{
		{"a leaf without entries", treeOf(0, leafOf())},
		{"a leaf with empty lists", treeOf(0, impl.Node{Leaf: true, Entries: []impl.Entry{}, Kids: []int{}})},
		{"a leaf with one entry", treeOf(0, leafOf(5))},
		{"a leaf with two entries", treeOf(0, leafOf(5, 6))},
		{"a leaf with three entries", treeOf(0, leafOf(5, 10, 20))},
		{"a leaf with MaxFan entries", treeOf(0, leafOf(-5, 0, 1, 20))},
		{"two leaves", treeOf(2, leafOf(1), leafOf(10), nodeOf([]int{0, 1}, 10))},
		{"two leaves, Root first", treeOf(0, nodeOf([]int{1, 2}, 10), leafOf(1), leafOf(10))},
		{"two leaves, Root between", treeOf(1, leafOf(10), nodeOf([]int{2, 0}, 10), leafOf(1))},
		{"two full leaves", treeOf(2, leafOf(1, 2, 3, 4), leafOf(10, 11, 12, 13), nodeOf([]int{0, 1}, 10))},
		{"MaxFan entries above", levelled(2, 1, 5)},
		{"MaxFan entries above, all leaves full", levelled(4, 1, 5)},
		{"two levels", twoLevels()},
		{"three levels", threeLevels()},
		{"three levels, the first leaf empty", emptyLeaves(0)},
		{"three levels, a leaf between empty", emptyLeaves(2)},
		{"three levels, leaves beside each other empty", emptyLeaves(2, 3)},
		{"three levels, the last leaf empty", emptyLeaves(5)},
		{"three levels, all leaves empty", emptyLeaves(0, 1, 2, 3, 4, 5)},
		{"three levels, all leaves but one empty", emptyLeaves(0, 1, 2, 3, 5)},
		{"three levels, all full", levelled(4, 1, 5, 25)},
		{"an entry above that is that above it", treeOf(6, leafOf(1), leafOf(25), leafOf(), leafOf(31), nodeOf([]int{0, 1}, 20), nodeOf([]int{2, 3}, 30), nodeOf([]int{4, 5}, 30))},
		{"entries above that stand in no leaf", treeOf(2, leafOf(1), leafOf(11), nodeOf([]int{0, 1}, 10))},
		{"one key over leaves", idsOver(intItem(5))},
		{"one text over leaves", idsOver(textItem("ab"))},
		{"one key with the least and the greatest Id", treeOf(0, impl.Node{Leaf: true, Entries: []impl.Entry{entryOf(1, 0), entryOf(1, 1), entryOf(1, lastId-1), entryOf(1, lastId)}})},
		{"as deep as can be", levelled(1, 1, 2, 4, 8, 16, 32, 64, 128)},
		{"one node less than MaxNodes", crowdedTree(2, mostNodes-1)},
		{"MaxNodes", crowdedTree(2, mostNodes)},
		{"MaxNodes, all leaves full", crowdedTree(4, mostNodes)},
		{"MaxNodes, all leaves empty", crowdedTree(0, mostNodes)},
		{"MaxNodes, at other places", renumbered(crowdedTree(3, mostNodes), 5)},
		{"keys and entries on the same memory", sharedTree()},
	}
	for i, key := range someKeys() {
		l = append(l,
			namedTree{fmt.Sprint("a leaf with the key ", i), treeOf(0, impl.Node{Leaf: true, Entries: []impl.Entry{{Key: key, Id: i}}})},
			namedTree{fmt.Sprint("the key above ", i), leavesBelow(impl.Entry{Key: key, Id: i})},
		)
	}
	for seed := range uint64(4) {
		l = append(l, namedTree{fmt.Sprint("three levels at other places ", seed), renumbered(threeLevels(), seed)})
	}
	return l
}

// wrongCounts are trees with too few or too many nodes, and with nodes that are not come to just once.
func wrongCounts() []namedTree {
	two := twoLevels()
	add := func(nodes ...impl.Node) impl.Tree {
		return changedTree(two, func(t *impl.Tree) { t.Nodes = append(t.Nodes, nodes...) })
	}
	root := func(n int) impl.Tree {
		return changedTree(two, func(t *impl.Tree) { t.Root = n })
	}
	kids := func(at int, kids ...int) impl.Tree {
		return changedTree(leavesBelow(entriesOf(10, 20)...), func(t *impl.Tree) { t.Nodes[at].Kids = kids })
	}
	return []namedTree{
		{"the zero value", impl.Tree{}},
		{"an empty list of nodes", impl.Tree{Nodes: []impl.Node{}}},
		{"no node, Root -1", impl.Tree{Root: -1}},
		{"one node more than MaxNodes", crowdedTree(2, mostNodes+1)},
		{"one node more than MaxNodes, all leaves empty", crowdedTree(0, mostNodes+1)},
		{"twice MaxNodes", levelled(1, 1, 4, 20, 96, 2*mostNodes-121)},
		{"Root -1", root(-1)},
		{"Root at the number of nodes", root(4)},
		{"Root at a leaf", root(0)},
		{"Root at the last leaf", root(2)},
		{"Root of a leaf -1", treeOf(-1, leafOf())},
		{"Root of a leaf 1", treeOf(1, leafOf())},
		{"the least Root", root(math.MinInt)},
		{"the greatest Root", root(math.MaxInt)},
		{"a leaf that is not come to", add(leafOf())},
		{"a leaf with entries that is not come to", add(leafOf(7))},
		{"the leaf 0 that is not come to", treeOf(1, leafOf(), leafOf(1))},
		{"a node above the Root", treeOf(2, leafOf(1), leafOf(10), nodeOf([]int{0, 1}, 10), nodeOf([]int{2, 4}, 20), leafOf())},
		{"another tree beside the tree", add(leafOf(1), leafOf(10), leafOf(20), nodeOf([]int{4, 5, 6}, 10, 20))},
		{"a node that is its own kid alone beside the tree", add(nodeOf([]int{4, 4}, 10))},
		{"a ring beside the tree", add(nodeOf([]int{5, 6}, 10), nodeOf([]int{4, 7}, 10), leafOf(), leafOf())},
		{"a leaf by two kids of one node", treeOf(1, leafOf(), nodeOf([]int{0, 0}, 10))},
		{"a leaf by the first two kids", kids(0, 1, 1, 3)},
		{"a leaf by the last two kids", kids(0, 1, 2, 2)},
		{"a leaf by the first and the last kid", kids(0, 1, 2, 1)},
		{"a leaf by two kids, all nodes come to", treeOf(3, leafOf(), leafOf(), leafOf(), nodeOf([]int{0, 1, 2, 0}, 10, 20, 30))},
		{"a leaf by kids of two nodes", treeOf(5, leafOf(), leafOf(), leafOf(), nodeOf([]int{0, 1}, 10), nodeOf([]int{1, 2}, 30), nodeOf([]int{3, 4}, 20))},
		{"a node by two kids", treeOf(3, leafOf(), leafOf(), nodeOf([]int{0, 1}, 10), nodeOf([]int{2, 2}, 10))},
		{"a node that is its own kid", treeOf(0, nodeOf([]int{0, 0}, 1))},
		{"a node that is its own first kid", kids(0, 0, 2, 3)},
		{"a node that is its own last kid", kids(0, 1, 2, 0)},
		{"a kid that is the Root above it", treeOf(3, leafOf(), leafOf(), nodeOf([]int{0, 3}, 30), nodeOf([]int{1, 2}, 20))},
		{"a kid that is the node above it", treeOf(5, leafOf(), leafOf(), leafOf(), nodeOf([]int{0, 4}, 30), nodeOf([]int{3, 1}, 40), nodeOf([]int{2, 4}, 20))},
		{"a ring from Root on", treeOf(0, nodeOf([]int{1, 2}, 10), nodeOf([]int{0, 3}, 5), leafOf(), leafOf())},
		{"a kid -1", kids(0, -1, 2, 3)},
		{"a last kid -1", kids(0, 1, 2, -1)},
		{"a kid at the number of nodes", kids(0, 4, 2, 3)},
		{"a last kid at the number of nodes", kids(0, 1, 2, 4)},
		{"the least kid", kids(0, 1, math.MinInt, 3)},
		{"the greatest kid", kids(0, 1, math.MaxInt, 3)},
	}
}

// wrongForms are trees one node of which has too many or too few entries or kids, or leaves at different heights.
func wrongForms() []namedTree {
	change := func(t impl.Tree, at int, n impl.Node) impl.Tree {
		return changedTree(t, func(t *impl.Tree) { t.Nodes[at] = n })
	}
	asLeaf := func(t impl.Tree, at int) impl.Tree {
		return changedTree(t, func(t *impl.Tree) { t.Nodes[at].Leaf = true })
	}
	return []namedTree{
		{"a leaf with a kid", treeOf(0, impl.Node{Leaf: true, Kids: []int{1}}, leafOf())},
		{"a leaf with kids as a node above has them", asLeaf(twoLevels(), 3)},
		{"a leaf with itself as a kid", treeOf(0, impl.Node{Leaf: true, Kids: []int{0}})},
		{"a leaf with a kid that is none", treeOf(0, impl.Node{Leaf: true, Kids: []int{-1}})},
		{"a leaf below with kids", asLeaf(threeLevels(), 6)},
		{"a leaf with one entry more than MaxFan", treeOf(0, leafOf(1, 2, 3, 4, 5))},
		{"a first leaf with one entry more than MaxFan", change(twoLevels(), 0, leafOf(1, 2, 3, 4, 5))},
		{"a last leaf with one entry more than MaxFan", change(twoLevels(), 2, leafOf(21, 22, 23, 24, 25))},
		{"no leaf, without entries and kids", treeOf(0, impl.Node{})},
		{"no leaf, with an entry, without kids", treeOf(0, nodeOf(nil, 5))},
		{"no leaf below, with entries, without kids", changedTree(twoLevels(), func(t *impl.Tree) { t.Nodes[1].Leaf = false })},
		{"above without entries, with a kid", leavesBelow()},
		{"below Root without entries, with a kid", treeOf(4, leafOf(1), leafOf(20), nodeOf([]int{0}), nodeOf([]int{1}), nodeOf([]int{2, 3}, 10))},
		{"above without entries, with two kids", treeOf(0, nodeOf([]int{1, 2}), leafOf(), leafOf())},
		{"above with one entry more than MaxFan", leavesBelow(entriesOf(10, 20, 30, 40, 50)...)},
		{"above with one entry and one kid", treeOf(0, nodeOf([]int{1}, 10), leafOf())},
		{"above with as many kids as entries", treeOf(0, nodeOf([]int{1, 2}, 10, 20), leafOf(), leafOf())},
		{"above with two kids more than entries", treeOf(0, nodeOf([]int{1, 2, 3}, 10), leafOf(), leafOf(), leafOf())},
		{"above with MaxFan entries and as many kids", treeOf(0, nodeOf([]int{1, 2, 3, 4}, 10, 20, 30, 40), leafOf(), leafOf(), leafOf(), leafOf())},
		{"above with MaxFan entries and two kids more", changedTree(leavesBelow(entriesOf(10, 20, 30, 40)...), func(t *impl.Tree) {
			t.Nodes[0].Kids, t.Nodes = append(t.Nodes[0].Kids, 6), append(t.Nodes, leafOf())
		})},
		{"a first leaf that is not as deep", treeOf(4, leafOf(), leafOf(), leafOf(), nodeOf([]int{1, 2}, 20), nodeOf([]int{0, 3}, 10))},
		{"a last leaf that is not as deep", treeOf(4, leafOf(), leafOf(), leafOf(), nodeOf([]int{0, 1}, 10), nodeOf([]int{3, 2}, 20))},
		{"a leaf between that is not as deep", treeOf(7, leafOf(), leafOf(), leafOf(), leafOf(), leafOf(), nodeOf([]int{0, 1}, 10), nodeOf([]int{3, 4}, 40), nodeOf([]int{5, 2, 6}, 20, 30))},
		{"a leaf between that is deeper", treeOf(5, leafOf(), leafOf(), leafOf(), leafOf(), nodeOf([]int{1, 2}, 15), nodeOf([]int{0, 4, 3}, 10, 20))},
		{"leaves two steps deeper", treeOf(6, leafOf(), leafOf(), leafOf(), leafOf(), nodeOf([]int{1, 2}, 30), nodeOf([]int{3, 4}, 20), nodeOf([]int{0, 5}, 10))},
	}
}

// wrongEntries are trees with one entry that is none, not in its node's order, or on the wrong side of one above it.
func wrongEntries() []namedTree {
	set := func(t impl.Tree, at int, i int, n int) impl.Tree {
		return changedTree(t, func(t *impl.Tree) { t.Nodes[at].Entries[i].Key = intItem(n) })
	}
	three := threeLevels()
	return []namedTree{
		{"a leaf that falls", treeOf(0, leafOf(2, 1))},
		{"a leaf that falls first", treeOf(0, leafOf(2, 1, 3))},
		{"a leaf that falls last", treeOf(0, leafOf(1, 2, 4, 3))},
		{"a leaf with one entry twice", treeOf(0, leafOf(1, 1))},
		{"a leaf with one entry twice at its end", treeOf(0, leafOf(1, 2, 3, 3))},
		{"a leaf with Ids that fall", treeOf(0, impl.Node{Leaf: true, Entries: []impl.Entry{entryOf(1, 2), entryOf(1, 1)}})},
		{"a leaf with one NaN twice", treeOf(0, impl.Node{Leaf: true, Entries: []impl.Entry{{Key: floatItem(math.NaN())}, {Key: floatItem(math.Float64frombits(strangeNaNs()[0]))}}})},
		{"a leaf whose kinds fall", treeOf(0, impl.Node{Leaf: true, Entries: []impl.Entry{{Key: textItem("")}, {Key: floatItem(0)}}})},
		{"a leaf below that falls", changedTree(three, func(t *impl.Tree) { t.Nodes[4] = leafOf(45, 40) })},
		{"above entries that fall", leavesBelow(entriesOf(20, 10)...)},
		{"above entries that fall last", leavesBelow(entriesOf(10, 20, 40, 30)...)},
		{"above one entry twice", leavesBelow(entriesOf(10, 10)...)},
		{"above one entry twice at the end", leavesBelow(entriesOf(10, 20, 30, 30)...)},
		{"above Ids that fall", leavesBelow(entryOf(1, 2), entryOf(1, 1))},
		{"below the kid 0 the entry 0", set(twoLevels(), 0, 1, 10)},
		{"below the kid 0 one above the entry 0", set(twoLevels(), 0, 1, 11)},
		{"below the kid 0 one above all", set(twoLevels(), 0, 1, 99)},
		{"below the kid 0 the entry 0 but for a greater Id", changedTree(twoLevels(), func(t *impl.Tree) { t.Nodes[0].Entries[1] = entryOf(10, 1) })},
		{"below the kid 1 the entry 1", set(twoLevels(), 1, 1, 20)},
		{"below the kid 1 one above the entry 1", set(twoLevels(), 1, 1, 21)},
		{"below the kid 1 one less than the entry 0", set(twoLevels(), 1, 0, 9)},
		{"below the kid 1 the entry 0 but for a less Id", changedTree(twoLevels(), func(t *impl.Tree) { t.Nodes[3].Entries[0].Id = 1 })},
		{"below the last kid one less than the last entry", set(twoLevels(), 2, 0, 19)},
		{"below the last kid one less than all", set(twoLevels(), 2, 0, 0)},
		{"two levels below the kid 0 the entry 0", set(three, 2, 1, 30)},
		{"two levels below the kid 0 one above the entry 0", set(three, 2, 1, 31)},
		{"two levels below the kid 1 one less than the entry 0", set(three, 3, 0, 29)},
		{"at the kid 0 the entry 0", set(emptyLeaves(0, 1, 2, 3, 4, 5), 6, 1, 30)},
		{"at the kid 0 one above the entry 0", set(emptyLeaves(0, 1, 2, 3, 4, 5), 6, 1, 31)},
		{"at the kid 1 one less than the entry 0", set(emptyLeaves(0, 1, 2, 3, 4, 5), 7, 0, 29)},
	}
}

// deepEntries are trees of eight levels whose first or last leaf below one kid of a node has an entry on its wrong side.
func deepEntries() []namedTree {
	var l []namedTree
	deep := levelled(1, 1, 2, 4, 8, 16, 32, 64, 128)
	leaves := len(deep.Nodes) - 128
	for steps := 1; steps <= 7; steps++ {
		parts := 128 >> steps
		for _, at := range []int{parts, 128 - parts} {
			l = append(l,
				namedTree{fmt.Sprint("in the leaf ahead of ", at, " of 128 the entry above"), changedTree(deep, func(t *impl.Tree) { t.Nodes[leaves+at-1].Entries = entriesOf(10 * at) })},
				namedTree{fmt.Sprint("in the leaf ", at, " of 128 one less than the entry above"), changedTree(deep, func(t *impl.Tree) { t.Nodes[leaves+at].Entries = entriesOf(10*at - 1) })},
			)
		}
	}
	return l
}

// entriesThatAreNone have a key that is none, or an Id past the limits.
func entriesThatAreNone() []impl.Entry {
	var l []impl.Entry
	for _, key := range noKeys() {
		l = append(l, impl.Entry{Key: key, Id: 1})
	}
	for _, id := range past([2]int{0, lastId}) {
		l = append(l, entryOf(5, id), impl.Entry{Key: textItem("a"), Id: id})
	}
	return l
}

// treesOfNoEntry have what is no entry in a leaf, among others or alone, and above.
func treesOfNoEntry() []namedTree {
	var l []namedTree
	for _, e := range entriesThatAreNone() {
		name := fmt.Sprintf("the key %v with the Id %d ", e.Key, e.Id)
		last := impl.Node{Leaf: true, Entries: []impl.Entry{e}}
		l = append(l,
			namedTree{name + "in a leaf", treeOf(0, last)},
			namedTree{name + "behind another", treeOf(0, impl.Node{Leaf: true, Entries: []impl.Entry{entryOf(math.MinInt, 0), e}})},
			namedTree{name + "ahead of another", treeOf(0, impl.Node{Leaf: true, Entries: []impl.Entry{e, {Key: longText("\xFF")}}})},
			namedTree{name + "above", leavesBelow(e)},
			namedTree{name + "above, last", leavesBelow(entryOf(math.MinInt, 0), e)},
			namedTree{name + "below the last kid", treeOf(1, leafOf(), nodeOf([]int{0, 2}, math.MinInt), last)},
			namedTree{name + "below the first kid", treeOf(1, last, impl.Node{Entries: []impl.Entry{{Key: longText("\xFF")}}, Kids: []int{0, 2}}, leafOf())},
		)
	}
	return l
}

// brokenTrees are far past the limits.
func brokenTrees() []namedTree {
	many := slices.Repeat(entriesOf(5), 100000)
	return []namedTree{
		{"very many leaves", impl.Tree{Nodes: slices.Repeat([]impl.Node{leafOf()}, 100000)}},
		{"very many entries in a leaf", treeOf(0, impl.Node{Leaf: true, Entries: many})},
		{"very many entries above", treeOf(0, impl.Node{Entries: many, Kids: make([]int, 100001)})},
		{"very many kids", treeOf(0, impl.Node{Entries: entriesOf(5), Kids: make([]int, 100000)})},
		{"very many kids of a leaf", treeOf(0, impl.Node{Leaf: true, Kids: make([]int, 100000)})},
		{"MaxNodes one below the other", chain(mostNodes)},
		{"MaxNodes that are each other's kids", impl.Tree{Nodes: slices.Repeat([]impl.Node{nodeOf([]int{0, 1, 2, 3, 4}, 1, 2, 3, 4)}, mostNodes)}},
		{"a very long text", treeOf(0, impl.Node{Leaf: true, Entries: []impl.Entry{{Key: impl.Item{Kind: impl.ItText, T: make([]byte, 100000)}}}})},
	}
}

// chain goes down at each node's last kid, as long as there are nodes, and from the last one to the first again.
func chain(n int) impl.Tree {
	var t impl.Tree
	for i := 0; i+1 < n; i += 2 {
		t.Nodes = append(t.Nodes, nodeOf([]int{i + 1, (i + 2) % n}, i), leafOf())
	}
	return t
}

func wrongTrees() []namedTree {
	return slices.Concat(wrongCounts(), wrongForms(), wrongEntries(), deepEntries(), brokenTrees())
}
