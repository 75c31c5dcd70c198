package tests

import (
	"math"
	"testing"

	"loop.example/g00252/impl"
)

func keyed(key impl.Item, xmin int) impl.Tuple {
	return impl.Tuple{Xmin: xmin, Key: key, Value: intItem(xmin)}
}

func TestHeapVersionsPlainly(t *testing.T) {
	a, b, c := keyed(intItem(1), 1), keyed(intItem(2), 2), keyed(intItem(1), 3)
	d, e := keyed(textItem("a"), 4), keyed(intItem(1), 1)
	h := heapOf(pageWith(1, a, impl.Tuple{}, b, c), noTuples(2), pageWith(3, d, e))
	for _, x := range []struct {
		name string
		key  impl.Item
		want []impl.Row
	}{
		{"no row", intItem(3), nil},
		{"one row", intItem(2), []impl.Row{{Page: 0, Slot: 2, Tuple: b}}},
		{"one row in the last page", textItem("a"), []impl.Row{{Page: 2, Slot: 0, Tuple: d}}},
		{"several over pages", intItem(1), []impl.Row{{Page: 0, Slot: 0, Tuple: a}, {Page: 0, Slot: 3, Tuple: c}, {Page: 2, Slot: 1, Tuple: e}}},
		{"a value, but no key", intItem(4), nil},
		{"a beginning of a key", textItem(""), nil},
		{"a key that goes on", textItem("aa"), nil},
		{"another kind", floatItem(1), nil},
		{"another kind, as a text", textItem("1"), nil},
	} {
		wantRows(t, x.name, impl.HeapVersions(h, x.key), x.want)
		wantRows(t, x.name+", of no page", impl.HeapVersions(impl.Heap{}, x.key), nil)
		wantRows(t, x.name+", of no tuples", impl.HeapVersions(pagesOf(3, noTuples), x.key), nil)
	}
}

// Keys of a page each, those that differ in their kind alone among them.
func TestHeapVersionsTellKeysApart(t *testing.T) {
	keys := []impl.Item{
		intItem(0), floatItem(0), textItem(""), intItem(1), floatItem(1), textItem("\x01"), textItem("1"),
		intItem(-1), floatItem(-1), floatItem(plainNaN()), floatItem(math.Inf(1)), textItem("\x00"), textItem("\x00\x00"),
		longText("k"), longText("l"),
	}
	var h impl.Heap
	for i, key := range keys {
		h.Pages = append(h.Pages, pageWith(i, impl.Tuple{}, keyed(key, i+1)))
	}
	for i, key := range keys {
		wantRows(t, "keys apart", impl.HeapVersions(h, key), []impl.Row{{Page: i, Slot: 1, Tuple: keyed(key, i+1)}})
	}
}

// All NaNs are one key, whatever bits they have.
func TestHeapVersionsOfANaN(t *testing.T) {
	h := heapOf(pageWith(1, keyed(floatItem(plainNaN()), 1), keyed(floatItem(math.Inf(1)), 2)))
	for _, bits := range strangeNaNs() {
		got := impl.HeapVersions(h, floatItem(math.Float64frombits(bits)))
		wantRows(t, "a NaN", got, []impl.Row{{Page: 0, Slot: 0, Tuple: keyed(floatItem(plainNaN()), 1)}})
	}
}

// Of a -0 there are no rows, although +0 is a key that has some and to which it compares alike.
func TestHeapVersionsOfWhatIsNoKey(t *testing.T) {
	h := heapOf(pageWith(1, keyed(intItem(0), 1), keyed(floatItem(0), 2), keyed(textItem(""), 3), keyed(intItem(1), 4), keyed(textItem("a"), 5)))
	for _, key := range noKeys() {
		wantRows(t, "no key", impl.HeapVersions(h, key), nil)
	}
	wantRows(t, "-0", impl.HeapVersions(h, floatItem(minusNought())), nil)
	wantRows(t, "+0", impl.HeapVersions(h, floatItem(0)), []impl.Row{{Page: 0, Slot: 1, Tuple: keyed(floatItem(0), 2)}})
}

func TestHeapVersionsOfHeapsThatAreNotOk(t *testing.T) {
	for _, w := range append(wrongHeaps(), brokenHeaps()...) {
		for page := range min(len(w.h.Pages), 3) {
			for _, slot := range w.h.Pages[page].Slots {
				if a, ok := plainTupleRead(slot); ok {
					wantRows(t, w.name, impl.HeapVersions(w.h, a.Key), nil)
				}
			}
		}
		wantRows(t, w.name, impl.HeapVersions(w.h, intItem(5)), nil)
	}
}

// The versions of all keys are all rows, each one of its own key's alone.
func TestHeapVersionsAreJustTheRowsOfTheKey(t *testing.T) {
	several := 0
	for seed := range uint64(300) {
		h := someHeap(seed + 5000)
		inAll := 0
		for _, key := range fewKeys() {
			l := impl.HeapVersions(h, key)
			wantRows(t, "some heap", l, plainVersions(h, key))
			inAll += len(l)
			if len(l) > 1 {
				several++
			}
		}
		if want := len(impl.HeapRows(h)); inAll != want {
			t.Errorf("%d versions of all keys, %d rows", inAll, want)
		}
	}
	if several < 100 {
		t.Errorf("only %d times several versions", several)
	}
}
