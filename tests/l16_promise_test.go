package tests

import (
	"fmt"
	"slices"
	"testing"

	"loop.example/g00252/impl"
)

// history has of each page all that it was, from the zero page on.
type history [mostPages][]impl.Page

// plainHistory does to pages what chapter 15 says that is done to them with each record; images change nothing there.
func plainHistory(t *testing.T, name string, h impl.Heap, log []impl.Record) (history, impl.Heap) {
	t.Helper()
	var all history
	for page := range all {
		was := impl.Page{}
		if page < len(h.Pages) {
			was = h.Pages[page]
		}
		all[page] = []impl.Page{was}
	}
	for _, r := range log {
		ok := true
		switch r.Kind {
		case impl.RecPut:
			a, _ := plainTupleRead(r.Data)
			h, ok = plainHeapPut(h, r.Page, r.Slot, a, r.Lsn)
		case impl.RecMark:
			h, ok = plainHeapMark(h, r.Page, r.Slot, r.Xid, r.Lsn)
		case impl.RecClear:
			h, ok = plainHeapClear(h, r.Page, r.Slot, r.Lsn)
		default:
			continue
		}
		if !ok {
			t.Fatalf("%s: the log has %v, which cannot be", name, r)
		}
		all[r.Page] = append(all[r.Page], h.Pages[r.Page])
	}
	return all, h
}

// mixed has n pages, each as it was at some time; the seed says when.
func (all history) mixed(n int, seed uint64) impl.Heap {
	var h impl.Heap
	for page, x := range someBits(n, seed) {
		h.Pages = append(h.Pages, all[page][x>>20%uint64(len(all[page]))])
	}
	return h
}

// wantWholeLog asks that all of the log can be done again, and gives this heap.
func wantWholeLog(t *testing.T, name string, h impl.Heap, log []impl.Record, want impl.Heap) {
	t.Helper()
	if got, n := impl.RedoAll(h, log); n != len(log) || !sameHeap(got, want) {
		t.Fatalf("%s: %d of %d records are done, and give %v, want %v", name, n, len(log), got, want)
	}
}

func TestPromise19OverNoPages(t *testing.T) {
	records := 0
	for i, d := range slices.Concat(rightKindsOfScripts(), drawnKinds()) {
		for seed := range uint64(40) {
			name := fmt.Sprint("kind ", i, ", seed ", seed)
			db := impl.LiveRun(drawOps(d, seed+1600*uint64(i))).Db
			wantWholeLog(t, name, impl.Heap{}, db.Log, db.Heap)
			wantWholeLog(t, name+", once more", db.Heap, db.Log, db.Heap)
			again, _ := impl.RedoAll(impl.Heap{}, db.Log)
			wantWholeLog(t, name+", over what was done again", again, db.Log, db.Heap)
			records += len(db.Log)
		}
	}
	if records < 10000 {
		t.Errorf("%d records", records)
	}
}

// Each page is as it was behind one of its records, in the midst of an op too; the last ones may not be there yet.
func TestPromise19OverPagesOfAnyTime(t *testing.T) {
	mixes := 0
	for i, d := range slices.Concat(rightKindsOfScripts(), drawnKinds()) {
		for seed := range uint64(12) {
			name := fmt.Sprint("kind ", i, ", seed ", seed)
			db := impl.LiveRun(drawOps(d, seed+1700*uint64(i))).Db
			all, end := plainHistory(t, name, impl.Heap{}, db.Log)
			if !sameHeap(end, db.Heap) {
				t.Fatalf("%s: the heap is not what its log tells", name)
			}
			for n := range len(end.Pages) + 1 {
				for mix := range uint64(8) {
					wantWholeLog(t, fmt.Sprint(name, ", mix ", mix, " of ", n), all.mixed(n, seed*100+mix), db.Log, db.Heap)
					mixes += oneIf(n > 1)
				}
			}
		}
	}
	if mixes < 3000 {
		t.Errorf("%d mixes", mixes)
	}
}

// Here the pages are told by the runs of the script's beginnings themselves.
func TestPromise19OverPagesOfShorterScripts(t *testing.T) {
	for i, d := range rightKindsOfScripts() {
		d.n = min(d.n, 90)
		d.values = []impl.Item{longText("v"), intItem(1)}
		for seed := range uint64(2) {
			name := fmt.Sprint("kind ", i, ", seed ", seed)
			ops := drawOps(d, seed+1800*uint64(i))
			db := impl.LiveRun(ops).Db
			var heaps []impl.Heap
			for n := range len(ops) + 1 {
				h := impl.LiveRun(ops[:n]).Db.Heap
				wantWholeLog(t, fmt.Sprint(name, ", the heap behind ", n), h, db.Log, db.Heap)
				heaps = append(heaps, h)
			}
			for mix := range uint64(60) {
				var h impl.Heap
				for page, x := range someBits(len(db.Heap.Pages), mix+seed*60) {
					from := heaps[x>>20%uint64(len(heaps))]
					if page < len(from.Pages) {
						h.Pages = append(h.Pages, from.Pages[page])
					} else {
						h.Pages = append(h.Pages, impl.Page{})
					}
				}
				wantWholeLog(t, fmt.Sprint(name, ", mix ", mix), h, db.Log, db.Heap)
			}
		}
	}
}

// All ways in which the pages of one short script can be of different times.
func TestPromise19OverAllMixesOfOneScript(t *testing.T) {
	db := impl.LiveRun(opsOf(t, `
		begin 0
		put 0 t40*a t40*v
		put 0 t40*b t40*v
		put 0 t40*c t40*v
		commit 0
		begin 1
		put 1 t40*a 5
		delete 1 t40*c
		put 1 t40*d t40*v
		begin 2
		commit 1
		begin 3
		put 3 t40*b 1
		abort 3
		vacuum
		commit 2
		vacuum
		begin 4
		put 4 t40*e t40*v
		put 4 t40*b t40*w
		put 4 t40*f t40*v
	`)).Db
	all, end := plainHistory(t, "one script", impl.Heap{}, db.Log)
	if !sameHeap(end, db.Heap) || len(end.Pages) < 3 {
		t.Fatalf("the heap is %v, by its log %v", db.Heap, end)
	}
	mixes := 1
	for page := range end.Pages {
		mixes *= len(all[page])
	}
	if mixes < 100 || mixes > 20000 {
		t.Fatalf("%d mixes", mixes)
	}
	for mix := range mixes {
		var h impl.Heap
		left := mix
		for page := range end.Pages {
			h.Pages = append(h.Pages, all[page][left%len(all[page])])
			left /= len(all[page])
		}
		wantWholeLog(t, fmt.Sprint("mix ", mix), h, db.Log, db.Heap)
	}
}

// writtenDown is what a script logs behind its first records, when the heap was written down behind these: the numbers
// go on behind a gap, and ahead of the first record of each page stands an image of it.
func writtenDown(h impl.Heap, log []impl.Record, lsn int) []impl.Record {
	var behind []impl.Record
	var imaged [mostPages]bool
	add := func(r impl.Record) {
		r.Lsn = lsn + len(behind)
		behind = append(behind, r)
	}
	for _, r := range log {
		if r.Kind == impl.RecImage {
			continue
		}
		if r.Kind != impl.RecCommit && !imaged[r.Page] {
			imaged[r.Page] = true
			var p impl.Page
			if r.Page < len(h.Pages) {
				p = h.Pages[r.Page]
			}
			add(imageOf(0, r.Page, p))
		}
		add(r)
	}
	return behind
}

// Images of pages with tuples: whatever older page stands there, a lost one too, the log behind them gives what was.
func TestRedoBehindAHeapThatWasWrittenDown(t *testing.T) {
	lost := 0
	for i, d := range slices.Concat(rightKindsOfScripts(), drawnKinds()) {
		for seed := range uint64(10) {
			log := impl.LiveRun(drawOps(d, seed+1900*uint64(i))).Db.Log
			if len(log) == 0 {
				continue
			}
			cut := int(someBits(1, seed+7)[0] >> 20 % uint64(len(log)))
			name := fmt.Sprint("kind ", i, ", seed ", seed, ", cut at ", cut)
			_, h := plainHistory(t, name, impl.Heap{}, log[:cut])
			behind := writtenDown(h, log[cut:], cut+1000)
			all, end := plainHistory(t, name, h, behind)
			wantWholeLog(t, name, h, behind, end)
			for mix := range uint64(6) {
				wantWholeLog(t, fmt.Sprint(name, ", mix ", mix), all.mixed(len(end.Pages), seed+mix), behind, end)
			}
			gap := cloneHeap(h)
			for page := range gap.Pages {
				if len(all[page]) > 1 && page%2 == 0 {
					gap.Pages[page] = impl.Page{}
					lost++
				}
			}
			wantWholeLog(t, name+", pages lost", gap, behind, end)
		}
	}
	if lost < 100 {
		t.Errorf("%d pages lost", lost)
	}
}

// By its log alone, of a script's transactions those are done that wrote and were committed; all others are gone.
func TestPromise19OfTheList(t *testing.T) {
	dones, idle, left := 0, 0, 0
	for i, d := range rightKindsOfScripts() {
		for seed := range uint64(40) {
			name := fmt.Sprint("kind ", i, ", seed ", seed)
			ops := drawOps(d, seed+2000*uint64(i))
			p := impl.LiveRun(ops)
			after, want := 1, []int{0}
			for _, of := range watch(t, name, ops, p).lives {
				isWriter := len(of.changed) > 0
				want = append(want, []int{gone, done}[oneIf(of.isDone && isWriter)])
				if isWriter {
					after = of.xid + 1
				}
				dones += oneIf(of.isDone && isWriter)
				idle += oneIf(of.isDone && !isWriter)
				left += oneIf(of.ended == 0 && isWriter)
			}
			wantList(t, name+", by the log", []int{0}, p.Db.Log, 1, want[:after], after)
			wantList(t, name+", by the log and Next", nil, p.Db.Log, p.Db.Next, want, p.Db.Next)
			wantCommittedAgain(t, name, p.Db)
		}
	}
	if dones < 1000 || idle < 100 || left < 100 {
		t.Errorf("%d wrote and were committed, %d did not write, %d were left", dones, idle, left)
	}
}

// wantCommittedAgain asks that heap and list, both out of the log alone, have as committed what the script had.
func wantCommittedAgain(t *testing.T, name string, db impl.Db) {
	t.Helper()
	h, _ := impl.RedoAll(impl.Heap{}, db.Log)
	list, _ := impl.RedoList(nil, db.Log, 1)
	if got, want := impl.Committed(h, list), impl.Committed(db.Heap, db.List); !slices.EqualFunc(got, want, samePair) {
		t.Fatalf("%s: committed is %v, want %v", name, got, want)
	}
}

// commitsIn counts the commits among records.
func commitsIn(l []impl.Record) int {
	count := 0
	for _, r := range l {
		count += oneIf(r.Kind == impl.RecCommit)
	}
	return count
}

// A log that is cut anywhere gives what was committed by what is left of it: all or nothing of each transaction.
func TestRedoOfALogThatIsCut(t *testing.T) {
	for i, d := range rightKindsOfScripts() {
		ops := drawOps(d, 2100+uint64(i))
		stores := map[int]plainStore{}
		for n := range len(ops) + 1 {
			part := impl.LiveRun(ops[:n])
			stores[commitsIn(part.Db.Log)] = watch(t, "a beginning", ops[:n], part).committed
		}
		log := impl.LiveRun(ops).Db.Log
		for cut := range len(log) + 1 {
			h, n := impl.RedoAll(impl.Heap{}, log[:cut])
			list, _ := impl.RedoList(nil, log[:cut], 1)
			got, want := impl.Committed(h, list), stores[commitsIn(log[:cut])].in(floorKey(), ceilingKey())
			if n != cut || !slices.EqualFunc(got, want, samePair) {
				t.Fatalf("kind %d, cut at %d: committed is %v, want %v", i, cut, got, want)
			}
		}
	}
}

// floorKey and ceilingKey have all keys that are drawn between them.
func floorKey() impl.Item {
	return intItem(-1 << 62)
}

func ceilingKey() impl.Item {
	return longText("\xFF")
}
