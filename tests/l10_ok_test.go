package tests

import (
	"testing"

	"loop.example/g00252/impl"
)

func TestHeapOkOfRightHeaps(t *testing.T) {
	for _, r := range rightHeaps() {
		if !impl.HeapOk(r.h) || !plainHeapOk(r.h) {
			t.Errorf("%s: is not HeapOk", r.name)
		}
	}
}

func TestHeapOkOfWrongHeaps(t *testing.T) {
	for _, w := range append(wrongHeaps(), brokenHeaps()...) {
		if impl.HeapOk(w.h) {
			t.Errorf("%s: is HeapOk", w.name)
		}
	}
}

func TestHeapOkOnBothSidesOfMaxPages(t *testing.T) {
	for _, one := range []func(int) impl.Page{noTuples, someTuples, fullPage, func(int) impl.Page { return impl.Page{} }} {
		for n := range mostPages + 10 {
			if got := impl.HeapOk(pagesOf(n, one)); got != (n <= mostPages) {
				t.Errorf("HeapOk of %d pages is %t", n, got)
			}
		}
	}
}

// Whatever page chapter 7 takes is one of a heap, if its slots are tuples or free, and none else is.
func TestHeapOkTakesThePagesOfChapter7(t *testing.T) {
	for _, sizes := range [][]int{
		{}, {12}, {92}, {0, 12}, {12, 0}, {0}, {92, 92, 52}, {92, 92, 53}, {92, 0, 92, 51}, {92, 0, 92, 52},
		sizesOf(mostSlots, leastTuple), sizesOf(mostSlots+1, leastTuple), append(sizesOf(mostSlots-1, 0), 20), append(sizesOf(mostSlots, 0), 20),
	} {
		for _, lsn := range []int{-1, 0, 1, lastLsn, lastLsn + 1} {
			p := tuplesPage(lsn, sizes...)
			if got, want := impl.HeapOk(heapOf(p)), impl.PageUsed(p) != -1; got != want {
				t.Errorf("HeapOk of a page of Lsn %d, sizes %v is %t", lsn, sizes, got)
			}
		}
	}
}

// Each tuple that there is may stand in a slot; a page whose slot is cut or goes on is none.
func TestHeapOkOfEachTuple(t *testing.T) {
	for _, a := range rightTuples() {
		b := plainTuple(a)
		if !impl.HeapOk(heapOf(impl.Page{Slots: [][]byte{b}})) {
			t.Errorf("a page with %v is not HeapOk", a)
		}
		if impl.HeapOk(heapOf(impl.Page{Slots: [][]byte{b[:len(b)-1]}})) || impl.HeapOk(heapOf(impl.Page{Slots: [][]byte{join(b, []byte{0})}})) {
			t.Errorf("a page with a piece of %v, or more than it, is HeapOk", a)
		}
	}
}

func TestHeapOkOfAByteChangedIsAsTheDocumentSays(t *testing.T) {
	count := map[bool]int{}
	for _, a := range oneTupleOfEach() {
		whole := plainTuple(a)
		for at := range whole {
			for _, bits := range []byte{1, 2, 0x80, 0xFF} {
				b := join(whole)
				b[at] ^= bits
				h := heapOf(impl.Page{Lsn: 3, Slots: [][]byte{whole, b}})
				want := plainHeapOk(h)
				count[want]++
				if got := impl.HeapOk(h); got != want {
					t.Errorf("HeapOk with %x is %t", b, got)
				}
			}
		}
	}
	if count[true] == 0 || count[false] == 0 {
		t.Errorf("HeapOk: %v", count)
	}
}
