package tests

import (
	"fmt"
	"slices"
	"testing"

	"loop.example/g00252/impl"
)

func wantBroken(t *testing.T, name string, d impl.Disk) {
	t.Helper()
	got, code := impl.StoreOpen(d)
	if code != storeBroken {
		t.Errorf("%s: StoreOpen has code %d, want %d", name, code, storeBroken)
	}
	wantStore(t, name, got, impl.Store{})
	if _, want := plainOpen(d); want != storeBroken {
		t.Errorf("%s: the plain reading has code %d", name, want)
	}
}

// wantOpened asks for a store that is well, as the plain reading has it too.
func wantOpened(t *testing.T, name string, d impl.Disk) impl.Store {
	t.Helper()
	got, code := wantOpenedAsPlainly(t, name, d)
	if code != storeWell {
		t.Errorf("%s: StoreOpen has code %d, want %d", name, code, storeWell)
	}
	return got
}

// wantEnded asks for the dead store of an opening that the disk ended.
func wantEnded(t *testing.T, name string, d impl.Disk, c impl.Control) impl.Store {
	t.Helper()
	got, code := wantOpenedAsPlainly(t, name, d)
	if code != storeDown {
		t.Errorf("%s: StoreOpen has code %d, want %d", name, code, storeDown)
	}
	wantStore(t, name, got, deadStore(got.Disk, c))
	return got
}

func firstControl() impl.Control {
	return impl.Control{Seq: 0, Area: 1, Lsn: 1, Next: 1, Pages: 0}
}

// heldControl, heldList, heldPages and heldLog are what heldDisk holds.
func heldControl() impl.Control {
	return impl.Control{Seq: 7, Area: 1, Lsn: 50, Next: 6, Pages: 3}
}

func heldList() []int {
	return []int{0, done, done, gone, running, done}
}

func heldPages() []impl.Page {
	return []impl.Page{pageWith(40, versionOf(1, 0), versionOf(2, 5)), pageWith(49, versionOf(5, 0)), {}}
}

func heldLog() []impl.Record {
	return []impl.Record{
		imageOf(50, 1, heldPages()[1]),
		tupleRecord(51, 1, 1, versionOf(4, 0)),
		commitRecord(52, 4),
		markRecord(53, 7, 1, 0),
		imageOf(54, 2, impl.Page{}),
		tupleRecord(55, 2, 0, versionOf(7, 0)),
	}
}

// heldDisk has three pages, and a log by which two of them change, one transaction is done and one more was there.
func heldDisk() impl.Disk {
	return laidDisk(heldControl(), heldList(), plainLog(heldLog()), heldPages()...)
}

// heldBy is heldDisk, but by another control.
func heldBy(c impl.Control) impl.Disk {
	log := heldLog()
	for i := range log {
		log[i].Lsn = c.Lsn + i
	}
	pages := heldPages()
	for i := range pages {
		pages[i].Lsn = min(pages[i].Lsn, c.Lsn)
	}
	return laidDisk(c, heldList(), plainLog(log), pages...)
}

func TestOpeningOfADiskThatHoldsSomething(t *testing.T) {
	for _, c := range []impl.Control{heldControl(), {Seq: 8, Area: 1, Lsn: 50, Next: 6, Pages: 3}, {Seq: 7, Area: 0, Lsn: 50, Next: 6, Pages: 3}, {Seq: 12, Area: 0, Lsn: 50, Next: 6}} {
		name := fmt.Sprint(c)
		d := heldBy(c)
		s := wantOpened(t, name, d)
		heap := heapOf(pageWith(40, versionOf(1, 0), versionOf(2, 5)), pageWith(53, versionOf(5, 7), versionOf(4, 0)), pageWith(55, versionOf(7, 0)))
		db := plainFresh()
		db.Heap, db.List, db.Next, db.Lsn, db.Room = heap, []int{0, done, done, gone, done, done, gone, gone}, 8, 1056, logRoom
		db.Tree = impl.TreeNew()
		for _, of := range []impl.Entry{entryOf(1, 0), entryOf(2, 1), entryOf(5, 16), entryOf(4, 17), entryOf(7, 32)} {
			db.Tree, _ = impl.TreeAdd(db.Tree, of.Key, of.Id)
		}
		if field := otherField(s.Db, db); field != "" {
			t.Errorf("%s: %s of the Db is another one: %v, want %v", name, field, s.Db, db)
		}
		next := impl.Control{Seq: c.Seq + 1, Area: 1 - c.Area, Lsn: 1056, Next: 8, Pages: 3}
		if s.Control != next || s.Safe != 0 || s.Dead {
			t.Errorf("%s: the store has %v, Safe %d, Dead %t", name, s.Control, s.Safe, s.Dead)
		}
		lay(d, next.Seq%2, plainControl(next))
		lay(d, statusesAt(next.Area), plainPadded(plainStatusBytes(db.List), 2*sectorSize))
		lay(d, pageOf(1), plainPage(heap.Pages[1]))
		lay(d, pageOf(2), plainPage(heap.Pages[2]))
		wantDisk(t, name, s.Disk, d)
	}
}

func TestOpeningOfANewDisk(t *testing.T) {
	s := wantOpened(t, "new", impl.DiskNew(diskSize))
	want := plainFresh()
	want.Lsn, want.Room = 1001, 3776
	if field := otherField(s.Db, want); field != "" {
		t.Errorf("new: %s of the Db is %v", field, s.Db)
	}
	c := impl.Control{Seq: 1, Area: 0, Lsn: 1001, Next: 1, Pages: 0}
	if s.Control != c || s.Safe != 0 || s.Dead {
		t.Errorf("new: the store has %v, Safe %d, Dead %t", s.Control, s.Safe, s.Dead)
	}
	d := blankDisk()
	lay(d, 1, plainControl(c))
	wantDisk(t, "new", s.Disk, d)
	again := wantOpened(t, "opened again", s.Disk)
	if again.Control != (impl.Control{Seq: 2, Area: 1, Lsn: 2001, Next: 1, Pages: 0}) {
		t.Errorf("opened again: %v", again.Control)
	}
}

func TestDisksThatAreNoneAreBroken(t *testing.T) {
	for _, of := range wrongDisks() {
		wantBroken(t, of.name, of.d)
	}
	for _, d := range []impl.Disk{heldDisk(), blankDisk()} {
		for _, at := range []int{0, 1, 2, 100, diskSize - 1} {
			for _, size := range []int{0, 1, 63, 65, 128} {
				wantBroken(t, "a sector of another size", changedDisk(d, func(d *impl.Disk) { d.Sectors[at] = plainPadded(d.Sectors[at], 200)[:size] }))
				wantBroken(t, "a write of another size", changedDisk(d, func(d *impl.Disk) { d.Waiting = append(d.Waiting, impl.Write{At: at, Data: make([]byte, size)}) }))
			}
		}
		for _, at := range wrongPlaces(diskSize) {
			wantBroken(t, "a write to no sector", changedDisk(d, func(d *impl.Disk) { d.Waiting = append(d.Waiting, impl.Write{At: at, Data: make([]byte, 64)}) }))
		}
		for _, fuse := range wrongFuses() {
			wantBroken(t, "a wrong fuse", withFuse(d, fuse))
		}
		wantBroken(t, "a write too many", changedDisk(d, func(d *impl.Disk) { d.Waiting = crowdedDisk(diskSize, mostWaiting+1).Waiting }))
		for _, n := range []int{0, 1, 2, 64, 134, diskSize - 4, diskSize - 1} {
			wantBroken(t, fmt.Sprint(n, " sectors"), changedDisk(d, func(d *impl.Disk) { d.Sectors = d.Sectors[:n] }))
		}
		for _, n := range []int{1, 2, 4, 512 - diskSize} {
			wantBroken(t, fmt.Sprint(n, " sectors too many"), changedDisk(d, func(d *impl.Disk) { d.Sectors = append(d.Sectors, impl.DiskNew(n).Sectors...) }))
		}
	}
	for _, n := range []int{1, 197, 199, 512} {
		wantBroken(t, fmt.Sprint("new, of ", n), impl.DiskNew(n))
	}
}

func TestDisksWithoutAControl(t *testing.T) {
	for at := range diskSize {
		for _, i := range []int{0, 1, at % sectorSize, 63} {
			d := blankDisk()
			d.Sectors[at][i] = byte(1 + at%255)
			wantBroken(t, fmt.Sprint("a byte in sector ", at), d)
			over := changedDisk(d, func(d *impl.Disk) { d.Waiting = []impl.Write{{At: at, Data: make([]byte, 64)}} })
			wantOpened(t, fmt.Sprint("a byte in sector ", at, " under a write of bytes 0"), over)
			waits := changedDisk(blankDisk(), func(w *impl.Disk) { w.Waiting = []impl.Write{{At: at, Data: d.Sectors[at]}} })
			wantBroken(t, fmt.Sprint("a byte in a write to sector ", at), waits)
		}
	}
	d := heldDisk()
	clear(d.Sectors[1])
	wantBroken(t, "all but the control", d)
	d = heldDisk()
	lay(d, 2, plainControl(heldControl()))
	clear(d.Sectors[1])
	wantBroken(t, "a control in another sector", d)
	for at := range 21 {
		d := heldDisk()
		d.Sectors[1][at]++
		wantBroken(t, fmt.Sprint("a control with another byte ", at), d)
	}
}

// Which of two controls counts shows in the Seq that the next one has.
func TestWhichControlCounts(t *testing.T) {
	blank := plainControl(impl.Control{})
	for _, of := range []struct {
		name          string
		first, second []byte
		seq, area     int
	}{
		{"one, in sector 0", plainControl(heldControl()), blank, 8, 0},
		{"one, in sector 1", blank, plainControl(heldControl()), 8, 0},
		{"one, beside all 0", plainControl(heldControl()), make([]byte, 64), 8, 0},
		{"one, behind all 0", make([]byte, 64), plainControl(heldControl()), 8, 0},
		{"one, behind some bytes", someBytes(64, 9), plainControl(heldControl()), 8, 0},
		{"the greater in sector 0", plainControl(impl.Control{Seq: 9, Area: 0, Lsn: 1, Next: 6}), plainControl(heldControl()), 10, 1},
		{"the greater in sector 1", plainControl(heldControl()), plainControl(impl.Control{Seq: 8, Area: 0, Lsn: 1, Next: 6}), 9, 1},
		{"the greater by far", plainControl(impl.Control{Seq: 256, Area: 0, Lsn: 1, Next: 6}), plainControl(impl.Control{Seq: 255, Area: 1, Lsn: 1, Next: 6}), 257, 1},
		{"of one Seq the one in sector 0", plainControl(impl.Control{Seq: 7, Area: 0, Lsn: 1, Next: 6}), plainControl(heldControl()), 8, 1},
		{"of one Seq the one in sector 0, turned", plainControl(heldControl()), plainControl(impl.Control{Seq: 7, Area: 0, Lsn: 1, Next: 6}), 8, 0},
	} {
		d := heldDisk()
		for page := range heldPages() {
			lay(d, pageOf(page), make([]byte, pageSize))
		}
		lay(d, statusesAt(0), plainStatusBytes(heldList()))
		lay(d, 0, of.first)
		lay(d, 1, of.second)
		s := wantOpened(t, of.name, d)
		if s.Control.Seq != of.seq || s.Control.Area != of.area {
			t.Errorf("%s: the next one is %v, want Seq %d and Area %d", of.name, s.Control, of.seq, of.area)
		}
		waits := blankDisk()
		waits.Sectors, waits.Waiting = d.Sectors, []impl.Write{{At: 0, Data: of.first}, {At: 1, Data: of.second}}
		waits = changedDisk(waits, func(d *impl.Disk) { clear(d.Sectors[0]); clear(d.Sectors[1]) })
		if s := wantOpened(t, of.name+", waiting", waits); s.Control.Seq != of.seq {
			t.Errorf("%s, waiting: the next one is %v", of.name, s.Control)
		}
	}
}

func TestOpeningOfStatuses(t *testing.T) {
	for _, area := range []int{0, 1} {
		c := heldControl()
		c.Area = area
		right := heldBy(c)
		at := statusesAt(area)
		turned := func(i int, bits byte) impl.Disk {
			return changedDisk(right, func(d *impl.Disk) { d.Sectors[at+i/64][i%64] ^= bits })
		}
		wantBroken(t, "none of the three", turned(1, 3))
		wantBroken(t, "the place 0", turned(0, 1))
		wantBroken(t, "the place 0", turned(0, 2))
		wantBroken(t, "bits behind the last number", turned(1, 16))
		wantBroken(t, "bits behind the last number", turned(1, 128))
		wantOpened(t, "bytes behind those of the numbers", turned(2, 255))
		wantOpened(t, "the last byte of the sectors", turned(127, 255))
		other := changedDisk(right, func(d *impl.Disk) { d.Sectors[statusesAt(1-area)][0] = 255 })
		wantOpened(t, "the other area", other)
		gaveUp := wantOpened(t, "another status", turned(0, 4+8))
		if !slices.Equal(gaveUp.Db.List, []int{0, gone, done, gone, done, done, gone, gone}) {
			t.Errorf("another status: the list is %v", gaveUp.Db.List)
		}
	}
	for _, next := range []int{1, 2, 3, 4, 5, 256, 257, 399, 400, 401} {
		list := sameOf(next, done)
		list[0] = 0
		for _, area := range []int{0, 1} {
			c := impl.Control{Seq: 3, Area: area, Lsn: 9, Next: next}
			s := wantOpened(t, fmt.Sprint("Next ", next), laidDisk(c, list, nil))
			if s.Db.Next != next || !slices.Equal(s.Db.List, list) || s.Control.Next != next {
				t.Errorf("Next %d: %d, a list of %d, %v", next, s.Db.Next, len(s.Db.List), s.Control)
			}
			running := wantOpened(t, fmt.Sprint("Next ", next, ", all run"), laidDisk(c, make([]int, next), nil))
			if !slices.Equal(running.Db.List, plainSettle(nil, next)) {
				t.Errorf("Next %d: all ran, and are %v", next, running.Db.List)
			}
			full := laidDisk(c, list, nil)
			full.Sectors[statusesAt(area)+(next-1)/4/64][(next-1)/4%64] |= 3 << ((next - 1) % 4 * 2)
			wantBroken(t, fmt.Sprint("Next ", next, ", the last is none"), full)
		}
	}
}

func TestOpeningOfPages(t *testing.T) {
	c := impl.Control{Seq: 3, Area: 0, Lsn: 900, Next: 401, Pages: 2}
	list := sameOf(401, done)
	list[0] = 0
	open := func(name string, c impl.Control, pages ...impl.Page) impl.Store {
		t.Helper()
		return wantOpened(t, name, laidDisk(c, list, nil, pages...))
	}
	for _, n := range []int{0, 1, 2, 15, 16} {
		c.Pages = n
		if s := open("no pages", c); len(s.Db.Heap.Pages) != n || s.Control.Pages != n {
			t.Errorf("Pages %d: %d pages", n, len(s.Db.Heap.Pages))
		}
	}
	for _, told := range []int{0, 1, 2, 3, 9, 16} {
		for _, last := range []int{0, 1, 7, 15} {
			c.Pages = told
			pages := make([]impl.Page, last+1)
			pages[last] = noTuples(7)
			if s := open("behind Pages", c, pages...); len(s.Db.Heap.Pages) != max(told, last+1) || s.Control.Pages != max(told, last+1) {
				t.Errorf("Pages %d, a page at %d: %d pages", told, last, len(s.Db.Heap.Pages))
			}
			pages[last] = impl.Page{Slots: someTuples(5).Slots}
			if s := open("behind Pages, of Lsn 0", c, pages...); len(s.Db.Heap.Pages) != max(told, last+1) {
				t.Errorf("Pages %d, a page of Lsn 0 at %d: %d pages", told, last, len(s.Db.Heap.Pages))
			}
		}
	}
	c.Pages = 1
	for _, of := range heaplessPages() {
		d := laidDisk(c, list, nil, someTuples(8))
		if plainUsed(of.p) < 0 {
			continue
		}
		lay(d, pageOf(3), plainPage(of.p))
		if s := wantOpened(t, of.name, d); len(s.Db.Heap.Pages) != 1 {
			t.Errorf("%s: %d pages", of.name, len(s.Db.Heap.Pages))
		}
		lay(d, pageOf(0), plainPage(of.p))
		if s := wantOpened(t, of.name, d); !samePage(s.Db.Heap.Pages[0], impl.Page{}) {
			t.Errorf("%s: the page is %v", of.name, s.Db.Heap.Pages[0])
		}
	}
	for sector := range 4 {
		d := laidDisk(c, list, nil, someTuples(8), someTuples(8))
		d.Sectors[pageOf(0)+sector][0]++
		d.Sectors[pageOf(1)+sector][0]++
		if s := wantOpened(t, "sectors of two ages", d); len(s.Db.Heap.Pages) != 1 || !samePage(s.Db.Heap.Pages[0], impl.Page{}) {
			t.Errorf("sectors of two ages: %v", s.Db.Heap.Pages)
		}
	}
	many := slices.Repeat([]impl.Page{tuplesPage(5, sizesOf(mostSlots, 13)...)}, mostPages)
	if s := open("as many rows as may be", c, many...); len(impl.HeapRows(s.Db.Heap)) != 256 || len(impl.TreeAll(s.Db.Tree)) != 256 {
		t.Errorf("as many rows as may be: %d rows", len(impl.HeapRows(s.Db.Heap)))
	}
}

// A page that is torn, or lost, or of any age, is made whole by its image in the log.
func TestOpeningMakesPagesWhole(t *testing.T) {
	want := wantOpened(t, "whole", heldDisk())
	for _, page := range []int{1, 2} {
		for name, b := range map[string][]byte{"lost": make([]byte, 256), "some bytes": someBytes(256, 3), "all ones": slices.Repeat([]byte{255}, 256), "done already": plainPage(want.Db.Heap.Pages[page])} {
			for _, sectors := range upTo(1, 15) {
				d := heldDisk()
				for i := range 4 {
					if sectors>>i&1 == 1 {
						lay(d, pageOf(page)+i, b[i*64:(i+1)*64])
					}
				}
				got := wantOpened(t, fmt.Sprint("page ", page, ", ", name, ", sectors ", sectors), d)
				wantStore(t, fmt.Sprint("page ", page, ", ", name, ", sectors ", sectors), got, want)
			}
		}
	}
}

func TestOpeningOfRowsOfNobody(t *testing.T) {
	for _, next := range []int{1, 2, 5, 255, 256, 400, 401} {
		c := impl.Control{Seq: 3, Area: 0, Lsn: 900, Next: next, Pages: 1}
		for _, xid := range []int{next - 1, next, next + 1, 400} {
			if xid < 1 || xid > 400 {
				continue
			}
			for _, a := range []impl.Tuple{tupleBy(xid, 0, intItem(1), intItem(2)), tupleBy(1, xid, intItem(1), intItem(2)), tupleBy(xid, xid, intItem(1), intItem(2))} {
				d := laidDisk(c, make([]int, next), nil, impl.Page{}, pageWith(5, versionOf(1, 0), a))
				if next == 1 {
					d = laidDisk(c, make([]int, next), nil, impl.Page{}, pageWith(5, a))
				}
				if xid < next {
					wantOpened(t, fmt.Sprint("Next ", next, ", a row of ", xid), d)
				} else {
					wantBroken(t, fmt.Sprint("Next ", next, ", a row of ", xid), d)
				}
			}
		}
	}
	c := impl.Control{Seq: 3, Area: 0, Lsn: 900, Next: 3, Pages: 1}
	for _, of := range []struct {
		name string
		log  []impl.Record
		well bool
	}{
		{"a commit of one below", []impl.Record{commitRecord(900, 8)}, false},
		{"a commit", []impl.Record{commitRecord(900, 9)}, true},
		{"a commit of one above", []impl.Record{commitRecord(900, 10)}, true},
		{"a mark", []impl.Record{markRecord(900, 9, 0, 0)}, true},
		{"a put by a lesser one", []impl.Record{tupleRecord(900, 0, 1, versionOf(9, 0))}, false},
		{"an image over it", []impl.Record{imageOf(900, 0, pageWith(3, versionOf(1, 0)))}, true},
		{"a clear of it", []impl.Record{clearRecord(900, 0, 0)}, true},
	} {
		d := laidDisk(c, make([]int, 3), plainLog(of.log), pageWith(5, versionOf(9, 0)))
		if of.well {
			wantOpened(t, of.name, d)
		} else {
			wantBroken(t, of.name, d)
		}
	}
	for _, of := range []struct {
		name string
		a    impl.Tuple
	}{{"Xmin", versionOf(3, 0)}, {"Xmax", versionOf(1, 3)}} {
		log := []impl.Record{imageOf(900, 0, pageWith(5, of.a))}
		wantBroken(t, "an image with the "+of.name+" of nobody", laidDisk(c, make([]int, 3), plainLog(log)))
		log = []impl.Record{imageOf(900, 0, impl.Page{}), {Kind: impl.RecPut, Lsn: 901, Xid: 1, Data: plainTuple(of.a)}}
		wantBroken(t, "a put with the "+of.name+" of nobody", laidDisk(c, make([]int, 3), plainLog(log)))
	}
}

func TestOpeningAtTheLimitsOfNumbers(t *testing.T) {
	for _, n := range []int{0, 1, 6} {
		for _, by := range []int{-2, -1, 0, 1, 2} {
			c := heldControl()
			c.Lsn = lastLsn - lsnGap - n + by
			log := heldLog()[:n]
			for i := range log {
				log[i].Lsn = c.Lsn + i
			}
			d := laidDisk(c, heldList(), plainLog(log), heldPages()...)
			name := fmt.Sprint("Lsn ", c.Lsn, ", ", n, " records")
			if by > 0 {
				wantBroken(t, name, d)
			} else if s := wantOpened(t, name, d); s.Db.Lsn != lastLsn+by || s.Control.Lsn != lastLsn+by {
				t.Errorf("%s: then %d", name, s.Db.Lsn)
			}
		}
	}
	for _, lsn := range []int{lastLsn, lastLsn - 1, lastLsn - 999} {
		wantBroken(t, fmt.Sprint("Lsn ", lsn), laidDisk(impl.Control{Seq: 1, Lsn: lsn, Next: 1}, nil, nil))
	}
	for _, seq := range []int{1, 2, 255, 256, 65535, 65536, lastSeq - 2, lastSeq - 1, lastSeq} {
		c := heldControl()
		c.Seq = seq
		d := heldBy(c)
		if seq == lastSeq {
			wantBroken(t, "the last Seq", d)
			wantBroken(t, "the last Seq, Down", downed(d))
		} else if s := wantOpened(t, fmt.Sprint("Seq ", seq), d); s.Control.Seq != seq+1 {
			t.Errorf("Seq %d: then %d", seq, s.Control.Seq)
		}
	}
}
