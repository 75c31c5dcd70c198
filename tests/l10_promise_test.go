package tests

import (
	"testing"

	"loop.example/g00252/impl"
)

// heapPlace is where a row stands.
type heapPlace struct {
	page, slot int
}

// rowsByPlace are a heap's tuples by their places.
func rowsByPlace(h impl.Heap) map[heapPlace]impl.Tuple {
	m := map[heapPlace]impl.Tuple{}
	for _, r := range impl.HeapRows(h) {
		m[heapPlace{r.Page, r.Slot}] = r.Tuple
	}
	return m
}

// wantJust fails where a heap has other rows than these, is not HeapOk, or tells other versions than just the rows of each key.
func wantJust(t *testing.T, name string, h impl.Heap, want map[heapPlace]impl.Tuple) {
	t.Helper()
	if !impl.HeapOk(h) {
		t.Fatalf("%s: is not HeapOk", name)
	}
	rows := rowsByPlace(h)
	if len(rows) != len(want) {
		t.Fatalf("%s: %d rows, want %d", name, len(rows), len(want))
	}
	for place, a := range want {
		if b, ok := rows[place]; !ok || !sameTuple(a, b) {
			t.Errorf("%s: row at %v is %v, want %v", name, place, b, a)
		}
	}
	inAll := 0
	for _, key := range fewKeys() {
		for _, r := range impl.HeapVersions(h, key) {
			a, ok := want[heapPlace{r.Page, r.Slot}]
			if !ok || !sameTuple(a, r.Tuple) || !sameItem(a.Key, key) {
				t.Errorf("%s: a version of %v is %v, want %v", name, key, r, a)
			}
			inAll++
		}
	}
	if inAll != len(want) {
		t.Errorf("%s: %d versions of all keys, want %d", name, inAll, len(want))
	}
}

// wantLsns looks at the Lsn of each page: that of the call, and of all others what it was.
func wantLsns(t *testing.T, name string, before impl.Heap, after impl.Heap, page int, lsn int) {
	t.Helper()
	if len(after.Pages) != max(len(before.Pages), page+1) {
		t.Fatalf("%s: %d pages, and %d behind it", name, len(before.Pages), len(after.Pages))
	}
	for i, p := range after.Pages {
		want := lsn
		if i != page {
			want = before.Pages[i].Lsn
		}
		if p.Lsn != want {
			t.Errorf("%s: page %d has Lsn %d, want %d", name, i, p.Lsn, want)
		}
	}
}

// heapCount is how often each was taken, so that nothing is held to be well which was never asked.
type heapCount struct {
	put, marked, cleared int
}

// checkPlace puts, marks and clears at one place of a heap and looks at all rows behind each.
func (c *heapCount) checkPlace(t *testing.T, h impl.Heap, place heapPlace, x uint64) {
	t.Helper()
	a, lsn, xmax := someTuple(x), 1+int(x>>20%lastLsn), int(x>>24%(lastXid+1))
	rows := rowsByPlace(h)
	was, there := rows[place]
	if after, ok := impl.HeapPut(h, place.page, place.slot, a, lsn); ok {
		if there {
			t.Errorf("a tuple is put over another at %v", place)
		}
		c.put++
		rows[place] = a
		wantJust(t, "put", after, rows)
		wantAt(t, "put", after, place.page, place.slot, a)
		wantLsns(t, "put", h, after, place.page, lsn)
		delete(rows, place)
	}
	after, marked := impl.HeapMark(h, place.page, place.slot, xmax, lsn)
	behind, cleared := impl.HeapClear(h, place.page, place.slot, lsn)
	if marked != there || cleared != there {
		t.Fatalf("a tuple at %v: %t, marked: %t, cleared: %t", place, there, marked, cleared)
	}
	if !there {
		return
	}
	c.marked++
	was.Xmax = xmax
	rows[place] = was
	wantJust(t, "marked", after, rows)
	wantAt(t, "marked", after, place.page, place.slot, was)
	wantLsns(t, "marked", h, after, place.page, lsn)
	c.cleared++
	delete(rows, place)
	wantJust(t, "cleared", behind, rows)
	wantLsns(t, "cleared", h, behind, place.page, lsn)
	wantNothingAt(t, "cleared", behind, place.page, place.slot)
}

func TestHeapsKeepAllOtherRows(t *testing.T) {
	var count heapCount
	for seed := range uint64(120) {
		h := someHeap(seed + 20000)
		numbers := someBits(18*18, seed)
		for page := -1; page <= min(len(h.Pages)+1, mostPages); page++ {
			step := 1 + len(h.Pages)/6
			for slot := -1; slot <= mostSlots; slot += step {
				count.checkPlace(t, h, heapPlace{page, slot}, numbers[(page+1)*18+slot+1])
			}
		}
	}
	if count.put < 1000 || count.marked < 500 || count.cleared < 500 {
		t.Errorf("put, marked and cleared: %v", count)
	}
}

// heapModel is a heap kept by what stands where, and how many pages there are.
type heapModel struct {
	rows  map[heapPlace]impl.Tuple
	pages int
}

// heapStep does one thing, as the numbers say, to a heap and to its model.
func heapStep(t *testing.T, h impl.Heap, m *heapModel, kind uint64, x uint64) impl.Heap {
	t.Helper()
	lsn, xmax := 1+int(x>>20%lastLsn), int(x>>24%(lastXid+1))
	place := heapPlace{int(x % uint64(m.pages+1)), int(x >> 8 % mostSlots)}
	was, there := m.rows[place]
	var after impl.Heap
	var ok bool
	switch kind % 8 {
	case 0, 1:
		after, ok = impl.HeapClear(h, place.page, place.slot, lsn)
		delete(m.rows, place)
	case 2:
		after, ok = impl.HeapMark(h, place.page, place.slot, xmax, lsn)
		if was.Xmax = xmax; there {
			m.rows[place] = was
		}
	default:
		a := someTuple(x)
		page, slot := impl.HeapPlace(h, len(plainTuple(a)))
		place = heapPlace{page, slot}
		if _, there = m.rows[place]; there {
			t.Fatalf("HeapPlace tells %v, where a tuple stands", place)
		}
		after, ok = impl.HeapPut(h, page, slot, a, lsn)
		if there = page >= 0; there {
			m.rows[place], m.pages = a, max(m.pages, page+1)
		}
	}
	if ok != there {
		t.Fatalf("step %d at %v: %t, want %t", kind%8, place, ok, there)
	}
	if !ok {
		return h
	}
	return after
}

func TestHeapsDoAsTheWordsSayOverManyCalls(t *testing.T) {
	most := 0
	for seed := range 30 {
		h, m := impl.Heap{}, &heapModel{rows: map[heapPlace]impl.Tuple{}}
		numbers := someBits(400, uint64(seed)+900)
		for i := 0; i+1 < len(numbers); i += 2 {
			h = heapStep(t, h, m, numbers[i]>>20, numbers[i+1]>>13)
			if len(h.Pages) != m.pages {
				t.Fatalf("%d pages, want %d", len(h.Pages), m.pages)
			}
			if i%10 == 0 {
				wantJust(t, "on its way", h, m.rows)
			}
		}
		wantJust(t, "at its end", h, m.rows)
		for place, a := range m.rows {
			wantAt(t, "at its end", h, place.page, place.slot, a)
		}
		most = max(most, m.pages)
	}
	if most < 6 {
		t.Errorf("at most %d pages", most)
	}
}

// A heap that is filled as long as a place is told has MaxPages pages, and then none is told.
func TestAHeapIsFilledUpToMaxPages(t *testing.T) {
	for _, n := range []int{leastTuple, 28, 52, longestSlot} {
		h, rows := impl.Heap{}, map[heapPlace]impl.Tuple{}
		for {
			a := tupleOfSize(n, len(rows))
			page, slot := impl.HeapPlace(h, n)
			if page < 0 {
				break
			}
			after, ok := impl.HeapPut(h, page, slot, a, 1+len(rows))
			if _, there := rows[heapPlace{page, slot}]; !ok || there {
				t.Fatalf("%d bytes at %d, %d: %t", n, page, slot, ok)
			}
			h, rows[heapPlace{page, slot}] = after, a
		}
		inPage := min(mostSlots, (bodySize-1)/(n+1))
		if len(h.Pages) != mostPages || len(rows) != mostPages*inPage || len(impl.HeapRows(h)) != len(rows) {
			t.Errorf("%d bytes: %d pages, %d rows", n, len(h.Pages), len(rows))
		}
		for place, a := range rows {
			wantAt(t, "filled", h, place.page, place.slot, a)
		}
	}
}
