package tests

import (
	"fmt"
	"slices"
	"testing"

	"loop.example/g00252/impl"
)

// storeWitness follows a script of a store by its ops and replies alone.
type storeWitness struct {
	*witness
	isDown  bool
	hasFuse bool
	// Who was told at its commit that the disk had ended, and is not yet known to be there or not.
	doubt               *life
	crashes, kept, lost int
}

// watchStore follows a whole run, whose ops are all OpOk, and in which a probe stands behind each crash.
func watchStore(t *testing.T, name string, ops []impl.Op, run impl.Run) *storeWitness {
	t.Helper()
	w := &storeWitness{witness: &witness{t: t, name: name, left: run.Replies, committed: plainStore{}}}
	for _, o := range ops {
		isEnd := len(w.left) > 0 && w.left[0].Code == rpDown
		switch {
		case o.Kind == opCrash:
			w.crash(o)
		case w.isDown || isEnd:
			w.isEnded(o)
		case o.Kind == opFuse || o.Kind == opCheckpoint || o.Kind == opEvict:
			w.hasFuse = w.hasFuse || o.Kind == opFuse
			if r := w.take(o); r.Code != rpDone && (o.Kind != opEvict || r.Code != rpNone) || !sameReply(r, impl.Reply{Seat: o.Seat, Kind: o.Kind, Code: r.Code}) {
				t.Fatalf("%s: the reply %q", name, wordsOf(r))
			}
		case w.doubt != nil && o.Kind == opScan:
			w.settle(o)
			fallthrough
		default:
			w.goesOn(o)
		}
	}
	if len(w.left) > 0 {
		t.Fatalf("%s: %d replies to nothing", name, len(w.left))
	}
	return w
}

// isEnded asks for the one reply to an op that the disk ends, or that comes behind it.
func (w *storeWitness) isEnded(o impl.Op) {
	w.t.Helper()
	if r := w.take(o); !sameReply(r, impl.Reply{Seat: o.Seat, Kind: o.Kind, Code: rpDown}) {
		w.t.Fatalf("%s: the reply %q of a dead store", w.name, wordsOf(r))
	}
	if w.isDown {
		return
	}
	w.isDown = true
	if o.Kind == opCommit {
		w.doubt = w.seats[o.Seat]
	}
	if !w.hasFuse || o.Kind != opCommit && o.Kind != opCheckpoint && o.Kind != opEvict || o.Kind == opCommit && (w.doubt == nil || w.doubt.holder != 0 || len(w.doubt.changed) == 0) {
		w.t.Fatalf("%s: the disk ends %s", w.name, opNames()[o.Kind])
	}
}

func (w *storeWitness) crash(o impl.Op) {
	w.t.Helper()
	open := 0
	for seat, of := range w.seats {
		if of != nil {
			open++
			w.moment++
			of.ended, of.holder = w.moment, 0
			w.seats[seat] = nil
		}
	}
	if w.isDown {
		open = 0
	}
	if r := w.take(o); !sameReply(r, impl.Reply{Seat: o.Seat, Kind: o.Kind, N: open}) {
		w.t.Fatalf("%s: the crash is told %q, %d seats were Open", w.name, wordsOf(r), open)
	}
	w.crashes++
	w.isDown, w.hasFuse = false, false
}

// with is what is committed if the one in doubt is.
func (w *storeWitness) with() plainStore {
	all := w.committed.clone()
	for bytes := range w.doubt.changed {
		delete(all, bytes)
		if pair, isThere := w.doubt.view[bytes]; isThere {
			all[bytes] = pair
		}
	}
	return all
}

// settle looks at what the probe is told, and knows by that whether all of the one in doubt is there; if it is not, the
// probe has to be told that nothing of it is.
func (w *storeWitness) settle(o impl.Op) {
	w.t.Helper()
	all := w.with()
	w.lost++
	if sameReply(w.left[0], all.do(o)) && !sameReply(w.left[0], w.committed.do(o)) {
		w.committed, w.doubt.isDone = all, true
		w.seats[o.Seat].view = all.clone()
		w.lost--
		w.kept++
	}
	w.doubt = nil
}

// wantThere asks that a store has as committed what it should have, whichever way the one in doubt went.
func (w *storeWitness) wantThere(name string, s impl.Store, code int) {
	w.t.Helper()
	got := impl.Committed(s.Db.Heap, s.Db.List)
	ways := []plainStore{w.committed}
	if w.doubt != nil {
		ways = append(ways, w.with())
	}
	for _, way := range ways {
		if code == storeWell && slices.EqualFunc(got, way.in(floorKey(), ceilingKey()), samePair) {
			return
		}
	}
	w.t.Fatalf("%s, %s: code %d, committed is %q", w.name, name, code, committedOf(s.Db))
}

// rightStoreKinds are those of storeKinds, all of whose ops are OpOk, with a probe behind each crash.
func rightStoreKinds() []storeDrawn {
	kinds := storeKinds()
	for i := range kinds {
		kinds[i].wrong, kinds[i].probe = false, true
	}
	return kinds
}

func TestPromise20(t *testing.T) {
	crashes, kept, lost, reads := 0, 0, 0, 0
	for i, d := range rightStoreKinds() {
		for seed := range uint64(60) {
			name := fmt.Sprint("kind ", i, ", seed ", seed)
			ops := drawStoreOps(d, seed+5000*uint64(i+1))
			run := impl.StoreRun(ops)
			w := watchStore(t, name, ops, run)
			w.wantNoTwoWroteOneKey()
			if !run.Store.Dead {
				w.wantThere("at its end", run.Store, storeWell)
			}
			for _, keep := range fewKeeps(len(run.Store.Disk.Waiting), 6, seed) {
				s, code := impl.StoreOpen(impl.DiskCrash(run.Store.Disk, keep))
				w.wantThere(nameOfKeep(keep), s, code)
			}
			crashes, kept, lost, reads = crashes+w.crashes, kept+w.kept, lost+w.lost, reads+w.reads
		}
	}
	if crashes < 2500 || kept < 8 || lost < 80 || reads < 5000 {
		t.Errorf("%d crashes, of those in doubt %d were there and %d were not, %d reads", crashes, kept, lost, reads)
	}
}

// withoutKinds are ops, or replies, without those of these kinds.
func withoutKinds(ops []impl.Op, kinds ...int) []impl.Op {
	return slices.DeleteFunc(slices.Clone(ops), func(o impl.Op) bool { return slices.Contains(kinds, o.Kind) })
}

// The disk of one script stops at each of its calls in turn.
func TestPromise20WithAFuseOfEachLength(t *testing.T) {
	cuts, kept := 0, 0
	for i, d := range rightStoreKinds() {
		if i%2 == 1 {
			continue
		}
		d.n, d.parts, d.fuse, d.probe = 40, 1, 0, false
		ops := withoutKinds(drawStoreOps(d, 900+uint64(i)), opCrash)
		ops = ops[:min(len(ops), 60)]
		whole := impl.StoreRun(append([]impl.Op{{Kind: opFuse, N: 10000}}, ops...))
		calls := 10000 - whole.Store.Disk.Fuse
		for fuse := range calls + 1 {
			cut := append([]impl.Op{{Kind: opFuse, N: fuse}}, ops...)
			waits := len(impl.StoreRun(cut).Store.Disk.Waiting)
			for _, keep := range fewKeeps(waits, 5, uint64(fuse)) {
				all := slices.Concat(cut, []impl.Op{{Kind: opCrash, Keep: keep}}, probe())
				run := impl.StoreRun(all)
				w := watchStore(t, fmt.Sprint("kind ", i, ", fuse ", fuse, ", ", nameOfKeep(keep)), all, run)
				w.wantThere("at its end", run.Store, storeWell)
				cuts++
				kept += w.kept
			}
		}
	}
	if cuts < 1000 || kept < 20 {
		t.Errorf("%d cuts, %d in doubt were there", cuts, kept)
	}
}

// wantAlike asks that two stores are well and hold the same rows and statuses.
func wantAlike(t *testing.T, name string, got impl.Store, code int, want impl.Store) {
	t.Helper()
	if code != storeWell || !sameRows(impl.HeapRows(got.Db.Heap), impl.HeapRows(want.Db.Heap)) || !slices.Equal(got.Db.List, want.Db.List) {
		t.Fatalf("%s: code %d, rows %v and statuses %v, want %v and %v", name, code, impl.HeapRows(got.Db.Heap), got.Db.List, impl.HeapRows(want.Db.Heap), want.Db.List)
	}
}

// leftDisks are the disks that scripts leave, stopped with several keeps; do gets each.
func leftDisks(seeds uint64, keeps int, do func(name string, d impl.Disk, seed uint64)) {
	for i, d := range storeKinds() {
		for seed := range seeds {
			ops := drawStoreOps(d, seed+8000*uint64(i+1))
			ops = ops[:int(someBits(1, seed)[0]>>20%uint64(len(ops)+1))]
			left := impl.StoreRun(ops).Store.Disk
			for _, keep := range fewKeeps(len(left.Waiting), keeps, seed) {
				do(fmt.Sprint("kind ", i, ", seed ", seed, ", ", nameOfKeep(keep)), impl.DiskCrash(left, keep), seed)
			}
		}
	}
}

func TestPromise21OpenedAndOpenedAgain(t *testing.T) {
	rows, dirty := 0, 0
	leftDisks(20, 4, func(name string, d impl.Disk, seed uint64) {
		first, code := impl.StoreOpen(d)
		wantAlike(t, name, first, code, first)
		second, code := impl.StoreOpen(first.Disk)
		wantAlike(t, name+", again", second, code, first)
		third, code := impl.StoreOpen(impl.DiskCrash(second.Disk, someKeep(9, seed)))
		wantAlike(t, name+", a third time", third, code, first)
		if second.Control.Seq != first.Control.Seq+1 || third.Db.Next != first.Db.Next || third.Control.Pages != first.Control.Pages {
			t.Fatalf("%s: %v, then %v, then %v", name, first.Control, second.Control, third.Control)
		}
		rows += len(impl.HeapRows(first.Db.Heap))
		dirty += oneIf(callsOf(t, d) > 5)
	})
	if rows < 2000 || dirty < 200 {
		t.Errorf("%d rows, %d openings that did something again", rows, dirty)
	}
}

// What is left as it stands, without a stop, is what a stop leaves that keeps all.
func TestADiskThatIsOpenedAsItWasLeft(t *testing.T) {
	for i, d := range storeKinds() {
		for seed := range uint64(25) {
			ops := drawStoreOps(d, seed+9000*uint64(i+1))
			left := impl.StoreRun(ops[:int(someBits(1, seed)[0]>>20%uint64(len(ops)+1))]).Store.Disk
			left.Down, left.Fuse = false, -1
			got, code := impl.StoreOpen(left)
			want, _ := impl.StoreOpen(impl.DiskCrash(left, keepOf("all")))
			wantAlike(t, fmt.Sprint("kind ", i, ", seed ", seed), got, code, want)
			wantDisk(t, fmt.Sprint("kind ", i, ", seed ", seed), got.Disk, want.Disk)
		}
	}
}

// An opening is cut at each of its calls, and then once more, whatever is kept.
func TestPromise21WithOpeningsThatAreCut(t *testing.T) {
	cuts := 0
	leftDisks(3, 2, func(name string, d impl.Disk, seed uint64) {
		want, code := impl.StoreOpen(d)
		wantAlike(t, name, want, code, want)
		for fuse := range callsOf(t, d) {
			dead, code := impl.StoreOpen(withFuse(d, fuse))
			if code != storeDown || !dead.Dead {
				t.Fatalf("%s: an opening with the fuse %d has code %d", name, fuse, code)
			}
			for _, keep := range fewKeeps(len(dead.Disk.Waiting), 5, seed+uint64(fuse)) {
				name := fmt.Sprint(name, ", cut at ", fuse, ", ", nameOfKeep(keep))
				stopped := impl.DiskCrash(dead.Disk, keep)
				got, code := impl.StoreOpen(stopped)
				wantAlike(t, name, got, code, want)
				again, _ := impl.StoreOpen(withFuse(stopped, int(seed*7+uint64(fuse)*3)%(callsOf(t, stopped))))
				got, code = impl.StoreOpen(impl.DiskCrash(again.Disk, someKeep(len(again.Disk.Waiting), seed+uint64(fuse))))
				wantAlike(t, name+", cut once more", got, code, want)
				cuts++
			}
		}
	})
	if cuts < 1000 {
		t.Errorf("%d openings were cut", cuts)
	}
}

// Every keep there is, of an opening that writes two pages down, as far as there are not too many.
func TestPromise21WithEveryKeep(t *testing.T) {
	d := heldDisk()
	want, _ := impl.StoreOpen(d)
	for fuse := range callsOf(t, d) {
		dead, _ := impl.StoreOpen(withFuse(d, fuse))
		n := len(dead.Disk.Waiting)
		for bits := range 1 << n {
			keep := make([]bool, n)
			for i := range keep {
				keep[i] = bits>>i&1 == 1
			}
			got, code := impl.StoreOpen(impl.DiskCrash(dead.Disk, keep))
			wantAlike(t, fmt.Sprint("fuse ", fuse, ", ", nameOfKeep(keep)), got, code, want)
		}
	}
}

// withoutNumbers are replies without those to ops of these kinds (a clean-up may find other rows, and an eviction other
// pages, where others of them were left out), and without the numbers of transactions.
func withoutNumbers(replies []impl.Reply, kinds ...int) []impl.Reply {
	var l []impl.Reply
	for _, r := range replies {
		if slices.Contains(kinds, r.Kind) {
			continue
		}
		if r.Kind == opBegin || r.Kind == opCommit || r.Code == rpWait {
			r.N = 0
		}
		l = append(l, r)
	}
	return l
}

func hasCode(run impl.Run, code int) bool {
	return slices.ContainsFunc(run.Replies, func(r impl.Reply) bool { return r.Code == code })
}

func TestPromise21WithoutCheckpointsEvictionsAndCleanUps(t *testing.T) {
	same, left := 0, 0
	for i, d := range storeKinds() {
		d.fuse, d.vacuum = 0, true
		for seed := range uint64(16) {
			ops := drawStoreOps(d, seed+11000*uint64(i+1))
			run := impl.StoreRun(ops)
			if hasCode(run, rpDown) {
				t.Fatalf("kind %d, seed %d: the disk ended without a fuse", i, seed)
			}
			for _, out := range [][]int{{opCheckpoint, opEvict, opVacuum}, {opCheckpoint}, {opEvict}, {opVacuum}} {
				fewer := withoutKinds(ops, out...)
				plain := impl.StoreRun(fewer)
				if hasCode(run, rpFull) || hasCode(plain, rpFull) {
					left++
					continue
				}
				same++
				got, want := withoutNumbers(plain.Replies, opCheckpoint, opEvict, opVacuum), withoutNumbers(run.Replies, opCheckpoint, opEvict, opVacuum)
				if !slices.EqualFunc(got, want, sameReply) {
					t.Fatalf("kind %d, seed %d: leaving out %v changes replies", i, seed, out)
				}
				if got, want := committedOf(run.Store.Db), committedOf(plain.Store.Db); got != want {
					t.Fatalf("kind %d, seed %d: leaving out %v changes what is committed: %s, %s", i, seed, out, got, want)
				}
			}
		}
	}
	if same < 500 {
		t.Errorf("%d scripts with the same replies, %d were full", same, left)
	}
}

// The transactions of Level 1 have an order over a store too, up to each crash by itself.
func TestDeedsOfStoresHaveAnOrder(t *testing.T) {
	deeds := 0
	for i, d := range rightStoreKinds() {
		d.levels, d.fuse = []int{1}, 0
		for seed := range uint64(15) {
			db := impl.StoreRun(withoutKinds(drawStoreOps(d, seed+13000*uint64(i+1)), opCrash)).Store.Db
			order, ok := impl.GraphOrder(db.Deeds)
			if !ok || !plainGraphSerial(db.Deeds, order) {
				t.Fatalf("kind %d, seed %d: no order of %d deeds", i, seed, len(db.Deeds))
			}
			wantTreeOfRows(t, fmt.Sprint("kind ", i, ", seed ", seed), db)
			deeds += len(db.Deeds)
		}
	}
	if deeds < 1000 {
		t.Errorf("%d deeds", deeds)
	}
}
