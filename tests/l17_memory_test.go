package tests

import (
	"fmt"
	"math"
	"runtime"
	"slices"
	"sync"
	"testing"
	"time"

	"loop.example/g00252/impl"
)

// memoryStoreDisks are disks of which StoreOpen tells each of its codes, with writes that wait and without.
func memoryStoreDisks() []namedDisk {
	held := heldDisk()
	waits := changedDisk(held, func(d *impl.Disk) {
		for _, at := range []int{1, 4, 70, 71, 72, 134, 138, 197, 1} {
			d.Waiting = append(d.Waiting, impl.Write{At: at, Data: slices.Clone(held.Sectors[at])})
		}
	})
	l := []namedDisk{
		{"new", blankDisk()},
		{"held", held},
		{"held, with writes that wait", waits},
		{"broken", changedDisk(held, func(d *impl.Disk) { d.Sectors[1][3]++ })},
		{"of other statuses", changedDisk(held, func(d *impl.Disk) { d.Sectors[4][0] = 255 })},
		{"of a sector less", changedDisk(held, func(d *impl.Disk) { d.Sectors = d.Sectors[1:] })},
		{"full", changedDisk(held, func(d *impl.Disk) { d.Waiting = crowdedDisk(1, mostWaiting-3).Waiting[:mostWaiting-3] })},
		{"Down", downed(waits)},
		{"texts", impl.DiskCrash(impl.StoreRun(slices.Concat(fullHeap(0), []impl.Op{{Kind: opEvict}})).Store.Disk, nil)},
	}
	for fuse := range 14 {
		l = append(l, namedDisk{fmt.Sprint("held, with the fuse ", fuse), withFuse(waits, fuse)})
	}
	for i, d := range storeKinds() {
		l = append(l, namedDisk{fmt.Sprint("of kind ", i), plainCrash(impl.StoreRun(drawStoreOps(d, uint64(i)+600)).Store.Disk, keepOf("101101"))})
	}
	return l
}

func TestOpeningLeavesItsArgumentsAndSharesNothing(t *testing.T) {
	for _, of := range memoryStoreDisks() {
		g := guardDisk(of.d)
		want, wantCode := impl.StoreOpen(cloneDisk(of.d))
		got, code := impl.StoreOpen(g.d)
		g.check(t, of.name)
		if code != wantCode {
			t.Errorf("%s: room behind a list shows in the code %d, want %d", of.name, code, wantCode)
		}
		wantStore(t, of.name, got, want)
		again, _ := impl.StoreOpen(g.d)
		wantNoneShared(t, of.name, got, again, want)
		for _, s := range []impl.Store{got, again} {
			wantNoneShared(t, of.name, s, g.d)
		}
		wantApart(t, of.name, got.Disk)
		g.check(t, of.name+", its answer spoilt")
		g.spoil()
		wantStore(t, of.name+", its argument spoilt", again, want)
	}
}

// Sectors and writes of one disk may stand on the same bytes.
func TestOpeningOfADiskOnOneList(t *testing.T) {
	blank := make([]byte, sectorSize)
	d := impl.Disk{Fuse: -1}
	for range diskSize {
		d.Sectors = append(d.Sectors, blank)
	}
	control := plainControl(impl.Control{Seq: 5, Area: 1, Lsn: 7, Next: 1})
	for _, waiting := range [][]impl.Write{nil, {{At: 3, Data: blank}}, {{At: 0, Data: control}, {At: 1, Data: control}}} {
		d.Waiting = waiting
		got, code := impl.StoreOpen(d)
		k, want := plainOpen(cloneDisk(d))
		if code != want {
			t.Errorf("on one list: code %d, want %d", code, want)
		}
		wantStore(t, "on one list", got, k.store())
		wantNoneShared(t, "on one list", got)
		if !slices.Equal(blank, make([]byte, sectorSize)) {
			t.Fatal("on one list: a disk that was handed in is changed")
		}
	}
}

// textStoreScripts are scripts of texts, with crashes whose Keep ends ahead of what waits.
func textStoreScripts(t *testing.T) [][]impl.Op {
	t.Helper()
	scripts := [][]impl.Op{
		nil,
		storeOps(t, "order 0\nput 0 ta tb\nget 0 ta\nscan 0 t tz 9\nevict 0\nput 0 tb tc\nfuse 3\ncommit 0\ncrash 1\norder 0\nget 0 ta\nput 0 ta td\norder 1\nput 1 ta te"),
		storeOps(t, "order 0\nput 0 ta tb\ncommit 0\nevict 0\nbegin 1\nput 1 ta tc\nevict 0\ncrash 11\nbegin 0\nscan 0 t tz 9\ncheckpoint\nevict 0\nevict 0"),
		storeOps(t, "order 0\nput 0 ta tb\ncommit 0\nfuse 2\ncheckpoint\ncrash 1\nfuse 4\nbegin 0\nput 0 ta tc\nevict 0"),
		slices.Concat(fullHeap(0), []impl.Op{{Kind: opCheckpoint}}, fullHeap(0), []impl.Op{{Kind: opCrash, Keep: keepOf("10")}}),
	}
	for _, ops := range textScripts(t) {
		scripts = append(scripts, ops)
	}
	texts := []impl.Item{textItem("a"), textItem("b"), textItem("some text"), longText("k"), textItem("")}
	for i, d := range storeKinds() {
		d.keys, d.values, d.n = texts, texts, min(d.n, 100)
		scripts = append(scripts, drawStoreOps(d, 29*uint64(i)))
	}
	return scripts
}

func TestStoresLeaveTheirArgumentsAndShareNothing(t *testing.T) {
	for i, ops := range textStoreScripts(t) {
		name := fmt.Sprint("script ", i)
		g := guardOps(ops)
		want := impl.StoreRun(cloneOps(ops))
		got := impl.StoreRun(g.ops)
		g.check(t, name)
		if !sameRun(got, want) {
			t.Errorf("%s: room behind a list shows", name)
		}
		wantNoneShared(t, name, got, g.ops)
		again := impl.StoreRun(g.ops)
		wantNoneShared(t, name, got, again)
		g.spoil()
		if !sameRun(got, want) || !sameRun(again, want) {
			t.Errorf("%s: an answer shares memory with its ops", name)
		}
	}
}

// However often it is asked, and whatever was asked ahead of it or is asked beside it, one script gives one answer.
func TestStoresAreTheSameEachTime(t *testing.T) {
	for i, d := range storeKinds() {
		for seed := range uint64(3) {
			ops := drawStoreOps(d, seed+23*uint64(i))
			first := impl.StoreRun(ops)
			opened, code := impl.StoreOpen(first.Store.Disk)
			var all sync.WaitGroup
			for range 8 {
				all.Add(1)
				go func() {
					defer all.Done()
					impl.StoreRun(ops[:len(ops)/2])
					if again := impl.StoreRun(ops); !sameRun(first, again) {
						t.Errorf("kind %d, seed %d: answers of one script differ", i, seed)
					}
					if again, other := impl.StoreOpen(first.Store.Disk); other != code || otherStoreField(opened, again) != "" {
						t.Errorf("kind %d, seed %d: answers of one disk differ", i, seed)
					}
				}()
			}
			all.Wait()
		}
	}
}

// wantNoMoreGoroutines waits a little for one that has done all its work to be gone.
func wantNoMoreGoroutines(t *testing.T, name string, before int) {
	t.Helper()
	for range 2000 {
		if runtime.NumGoroutine() <= before {
			return
		}
		time.Sleep(time.Millisecond)
	}
	t.Fatalf("%s: %d goroutines, before there were %d", name, runtime.NumGoroutine(), before)
}

func TestAllGoroutinesHaveEnded(t *testing.T) {
	before := runtime.NumGoroutine()
	for _, of := range memoryStoreDisks() {
		impl.StoreOpen(of.d)
		wantNoMoreGoroutines(t, of.name, before)
	}
	for i, d := range storeKinds() {
		for seed := range uint64(5) {
			impl.StoreRun(drawStoreOps(d, seed+43*uint64(i)))
			wantNoMoreGoroutines(t, fmt.Sprint("kind ", i, ", seed ", seed), before)
		}
	}
}

func TestStoresNeverPanic(t *testing.T) {
	far := []int{math.MinInt, -1 << 32, -1, 0, 1, 2, 7, 8, 9, 14, 50, 51, 1 << 32, math.MaxInt}
	items := []impl.Item{{}, intItem(1), {Kind: 9}, {Kind: -1, T: make([]byte, 1000)}, {Kind: impl.ItText, T: make([]byte, 41)}, floatItem(math.NaN()), floatItem(minusNought()), textItem("a"), intItem(2)}
	for seed, x := range someBits(700, 1777) {
		y := someBits(400, x)
		var ops []impl.Op
		for i := range int(y[0]>>20%uint64(len(y)/2) + 1) {
			z := someBits(9, y[i])
			pick := func(k int, n int) int { return int(z[k] >> 20 % uint64(n)) }
			o := impl.Op{Kind: pick(0, 16) - 1, Seat: pick(1, 3), Level: pick(2, 2), N: pick(3, 9), Key: items[pick(4, 9)], To: items[pick(5, 9)], Value: items[pick(6, 9)]}
			if pick(7, 9) == 0 {
				o.Kind, o.Seat, o.Level, o.N = far[pick(0, len(far))], far[pick(1, len(far))], far[pick(2, len(far))], far[pick(3, len(far))]
			}
			if o.Kind == opCrash {
				o.Keep = someKeep(pick(8, 700), z[0])
			}
			ops = append(ops, o)
		}
		quiet(t, fmt.Sprint("StoreRun, seed ", seed), func() { impl.StoreRun(ops) })
	}
	quiet(t, "StoreRun of very many", func() { impl.StoreRun(make([]impl.Op, 1000000)) })
	for _, of := range slices.Concat(wrongDisks(), rightDisks(), memoryStoreDisks()) {
		quiet(t, "StoreOpen, "+of.name, func() { impl.StoreOpen(of.d) })
	}
	for seed := range uint64(300) {
		d := heldDisk()
		for i := range d.Sectors {
			if i > 1 && (seed%3 > 0 || i%int(seed%7+1) == 0) {
				d.Sectors[i] = someBytes(sectorSize, seed*200+uint64(i))
			}
			if seed%2 == 0 && i >= logOf(1) && i < pageAt {
				d.Sectors[i] = plainLogSector(7, logBody, someBytes(logBody, seed+uint64(i)))
			}
		}
		quiet(t, "StoreOpen of some bytes", func() { impl.StoreOpen(d) })
	}
	quiet(t, "StoreOpen of very many sectors", func() { impl.StoreOpen(impl.Disk{Fuse: -1, Sectors: make([][]byte, 1000000)}) })
}

// Wrong ops between right ones change nothing of what those are told, nor of the disk.
func TestWrongOpsChangeNothingInAStore(t *testing.T) {
	wrong := badOps()
	for i, d := range rightStoreKinds() {
		d.n, d.probe = min(d.n, 70), false
		for seed := range uint64(3) {
			ops := drawStoreOps(d, seed+31*uint64(i))
			ops = ops[:min(len(ops), mostOps/2)]
			var more []impl.Op
			for k, o := range ops {
				more = append(more, o, wrong[(k+int(seed))%len(wrong)])
			}
			run, plain := impl.StoreRun(more), impl.StoreRun(ops)
			replies := slices.DeleteFunc(run.Replies, func(r impl.Reply) bool { return r.Code == rpBad })
			if field := otherStoreField(run.Store, plain.Store); field != "" || !slices.EqualFunc(replies, plain.Replies, sameReply) {
				t.Fatalf("kind %d, seed %d: wrong ops between change %s or a reply", i, seed, field)
			}
		}
	}
}
