package tests

import (
	"math"
	"testing"

	"loop.example/g00252/impl"
)

// written is a tuple of which nothing but who wrote it and who took its place counts.
func written(xmin int, xmax int) impl.Tuple {
	return impl.Tuple{Xmin: xmin, Xmax: xmax, Key: intItem(xmin*1000 + xmax), Value: textItem("v")}
}

func TestHeapDeadPlainly(t *testing.T) {
	l := []int{gone, done, gone, running, done, running, gone, done}
	byXmin, byBoth, byXmax, byItself := written(2, 0), written(6, 4), written(1, 4), written(4, 4)
	h := heapOf(
		pageWith(1, written(1, 0), byXmin, impl.Tuple{}, written(3, 0), byBoth),
		noTuples(2),
		pageWith(3, byXmax, written(1, 2), written(1, 7), byItself),
		pageWith(4, written(1, 3), written(8, 0), written(1, 8)),
	)
	all := []impl.Row{{Page: 0, Slot: 1, Tuple: byXmin}, {Page: 0, Slot: 4, Tuple: byBoth}, {Page: 2, Slot: 0, Tuple: byXmax}, {Page: 2, Slot: 3, Tuple: byItself}}
	wantRows(t, "horizon above", impl.HeapDead(h, l, 5), all)
	wantRows(t, "horizon at the last one's Xmax", impl.HeapDead(h, l, 7), all)
	wantRows(t, "horizon at the Xmax", impl.HeapDead(h, l, 4), all[:2])
	wantRows(t, "horizon 0", impl.HeapDead(h, l, 0), all[:2])
	wantRows(t, "horizon below 0", impl.HeapDead(h, l, math.MinInt), all[:2])
	last := impl.Row{Page: 2, Slot: 2, Tuple: written(1, 7)}
	past := []impl.Row{all[0], all[1], all[2], last, all[3]}
	wantRows(t, "horizon above all", impl.HeapDead(h, l, 8), past)
	wantRows(t, "horizon far out", impl.HeapDead(h, l, math.MaxInt), past)
	wantRows(t, "no statuses", impl.HeapDead(h, nil, 9), nil)
	wantRows(t, "all run", impl.HeapDead(h, sameOf(9, running), 9), nil)
	wantRows(t, "all are gone", impl.HeapDead(h, sameOf(mostStatuses, gone), 0), impl.HeapRows(h))
}

func TestHeapDeadOfHeapsWithoutTuples(t *testing.T) {
	for _, h := range []impl.Heap{{}, heapOf(impl.Page{}), pagesOf(3, noTuples), pagesOf(mostPages, noTuples)} {
		wantRows(t, "no tuples", impl.HeapDead(h, sameOf(mostStatuses, gone), lastXid+1), nil)
	}
}

func TestHeapDeadOfHeapsThatAreNotOk(t *testing.T) {
	for _, w := range append(wrongHeaps(), brokenHeaps()...) {
		for _, status := range threeStatuses() {
			wantRows(t, w.name, impl.HeapDead(w.h, sameOf(mostStatuses, status), lastXid+1), nil)
		}
	}
}

func TestHeapDeadIsAsTheDocumentSays(t *testing.T) {
	dead, living := 0, 0
	for seed := range uint64(200) {
		h := someHeap(seed + 11000)
		for horizon := -1; horizon <= 14; horizon += 3 {
			l := someSays(int(seed%15), seed)
			got := impl.HeapDead(h, l, horizon)
			wantRows(t, "some heap", got, plainHeapDead(h, l, horizon))
			dead += len(got)
			living += len(plainRows(h)) - len(got)
		}
	}
	if dead < 500 || living < 500 {
		t.Errorf("dead: %d, living: %d", dead, living)
	}
}

// What HeapDead tells may be cleared row by row; then none is dead, and the others are as they were.
func TestHeapDeadIsWhatIsCleared(t *testing.T) {
	for seed := range uint64(60) {
		h, l := someHeap(seed+12000), someStatuses(14, seed)
		living := len(impl.HeapRows(h)) - len(impl.HeapDead(h, l, 9))
		for _, r := range impl.HeapDead(h, l, 9) {
			after, ok := impl.HeapClear(h, r.Page, r.Slot, 5)
			if !ok {
				t.Fatalf("HeapClear of %v: %v", r, ok)
			}
			h = after
		}
		wantRows(t, "all cleared", impl.HeapDead(h, l, 9), nil)
		if got := len(impl.HeapRows(h)); got != living {
			t.Errorf("%d rows are left, want %d", got, living)
		}
	}
}
