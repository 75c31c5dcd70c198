package tests

import (
	"bytes"
	"fmt"
	"math"
	"slices"
	"testing"

	"loop.example/g00252/impl"
)

// doneBy counts how many of heldLog's records an opened store has done.
func doneBy(s impl.Store) int {
	return s.Db.Lsn - lsnGap - heldControl().Lsn
}

func wantDone(t *testing.T, name string, d impl.Disk, want int) {
	t.Helper()
	if got := doneBy(wantOpened(t, name, d)); got != want {
		t.Errorf("%s: %d records were done, want %d", name, got, want)
	}
}

// manyCommits are so many commits that a log is full by them, or more than full.
func manyCommits(n int, lsn int, xid int) []impl.Record {
	l := commits(n, lsn)
	for i := range l {
		l[i].Xid = xid
	}
	return l
}

func TestOpeningOfALogThatIsCut(t *testing.T) {
	whole := plainLog(heldLog())
	places := ends(heldLog())
	for n := range len(whole) + 1 {
		want := 0
		for want+1 < len(places) && places[want+1] <= n {
			want++
		}
		d := laidDisk(heldControl(), heldList(), whole[:n], heldPages()...)
		wantDone(t, fmt.Sprint(n, " bytes of a log"), d, want)
	}
	for at := range whole {
		want := 0
		for places[want+1] <= at {
			want++
		}
		other := bytes.Clone(whole)
		other[at] ^= 1
		wantDone(t, fmt.Sprint("byte ", at, " of a log changed"), laidDisk(heldControl(), heldList(), other, heldPages()...), want)
	}
}

// Each sector of the log in turn is no more one of it, or tells less or more than it did.
func TestOpeningByTheSectorsOfALog(t *testing.T) {
	whole := plainLog(heldLog())
	places := ends(heldLog())
	wholeIn := func(n int) int {
		want := 0
		for want+1 < len(places) && places[want+1] <= n {
			want++
		}
		return want
	}
	first := logOf(heldControl().Area)
	sectors := (len(whole) + logBody - 1) / logBody
	wantDone(t, "whole", heldDisk(), len(heldLog()))
	for i := range sectors {
		part := whole[i*logBody : min(len(whole), (i+1)*logBody)]
		with := func(name string, sector []byte, want int) {
			t.Helper()
			d := heldDisk()
			lay(d, first+i, sector)
			wantDone(t, fmt.Sprint("sector ", i, ": ", name), d, want)
		}
		with("as it was", plainLogSector(7, len(part), part), len(heldLog()))
		with("lost", make([]byte, 64), wholeIn(i*logBody))
		for _, seq := range []int{0, 6, 8, 7 + 256, 7 + 65536, 7 + 1<<24, 1<<32 - 1} {
			with(fmt.Sprint("of Seq ", seq), plainLogSector(seq, len(part), part), wholeIn(i*logBody))
		}
		for _, count := range []int{60, 61, 64, 118, 128, 200, 255} {
			with(fmt.Sprint("that tells ", count), plainLogSector(7, count, part), wholeIn(i*logBody))
		}
		for _, count := range []int{0, 1, 57, 58} {
			if count < len(part) {
				with(fmt.Sprint("that tells ", count), plainLogSector(7, count, part), wholeIn(i*logBody+count))
			}
		}
		with("that tells more than it should", plainLogSector(7, logBody, part), len(heldLog()))
		if len(part) < logBody {
			behind := plainLogSector(7, len(part), append(bytes.Clone(part), someBytes(logBody-len(part), 4)...))
			with("with other bytes behind what it tells", behind, len(heldLog()))
		}
	}
	d := heldDisk()
	lay(d, first+sectors, plainLogSector(7, 19, plainRecord(commitRecord(56, 5))))
	wantDone(t, "a sector behind the last one", d, len(heldLog()))
	d = heldDisk()
	lay(d, logOf(1-heldControl().Area), plainLogSectors(7, plainLog(heldLog()[:1])))
	wantDone(t, "a log in the other area", d, len(heldLog()))
	d = heldDisk()
	lay(d, first, make([]byte, 64*64))
	lay(d, logOf(1-heldControl().Area), plainLogSectors(7, whole))
	wantDone(t, "a log in the other area alone", d, 0)
	for _, lsn := range []int{1, 49, 51, 1050} {
		log := heldLog()
		log[0].Lsn = lsn
		wantDone(t, "another first Lsn", laidDisk(heldControl(), heldList(), plainLog(log), heldPages()...), 0)
		log = heldLog()
		log[2].Lsn = lsn
		wantDone(t, "an Lsn that does not follow", laidDisk(heldControl(), heldList(), plainLog(log), heldPages()...), 2)
	}
}

// Each sector tells just one record: what stands behind the first that is none, or that is not full, does not count,
// although its number would follow.
func TestOpeningEndsAtTheFirstSectorThatIsNotFull(t *testing.T) {
	c := impl.Control{Seq: 7, Area: 0, Lsn: 50, Next: 401}
	list := make([]int, 401)
	full := func(lsn int) []byte { return plainRecord(tupleRecord(lsn, lsn-50, 0, tupleOfSize(40, lsn))) }
	if len(full(50)) != logBody {
		t.Fatalf("a record of %d bytes", len(full(50)))
	}
	for at := range 6 {
		for _, of := range []struct {
			name   string
			sector []byte
			more   int
		}{
			{"full", plainLogSector(7, 59, full(50+at)), 8 - at},
			{"lost", make([]byte, 64), 0},
			{"of the Seq ahead", plainLogSector(6, 59, full(50+at)), 0},
			{"of the Seq behind", plainLogSector(8, 59, full(50+at)), 0},
			{"that tells nothing", plainLogSector(7, 0, nil), 0},
			{"that tells too much", plainLogSector(7, 60, full(50+at)), 0},
			{"that tells far too much", plainLogSector(7, 255, full(50+at)), 0},
			{"that tells a byte less", plainLogSector(7, 58, plainRecord(tupleRecord(50+at, at, 0, tupleOfSize(39, at)))), 1},
			{"that tells a short record", plainLogSector(7, 19, plainRecord(commitRecord(50+at, 3))), 1},
			{"of no record", plainLogSector(7, 59, someBytes(59, 8)), 0},
		} {
			d := laidDisk(c, list, nil)
			lsn := 50
			for i := range 8 {
				if i == at {
					lay(d, logOf(0)+i, of.sector)
					lsn += oneIf(of.more > 0)
					continue
				}
				lay(d, logOf(0)+i, plainLogSector(7, 59, full(lsn)))
				lsn++
			}
			wantDone(t, fmt.Sprint("sector ", at, ", ", of.name), d, at+of.more)
		}
	}
}

// Logs up to the last byte of their room, in either area, of any length within a sector.
func TestOpeningOfFullLogs(t *testing.T) {
	for _, area := range []int{0, 1} {
		c := impl.Control{Seq: 4, Area: area, Lsn: 9, Next: 3}
		for n := 190; n <= 198; n++ {
			log := plainLog(manyCommits(n, 9, 2))
			s := wantOpened(t, fmt.Sprint(n, " records"), laidDisk(c, make([]int, 3), log))
			if s.Db.Lsn != 9+n+lsnGap {
				t.Errorf("%d records: Lsn %d", n, s.Db.Lsn)
			}
		}
		images := []impl.Record{imageOf(9, 0, impl.Page{}), commitRecord(10, 1)}
		full := append(images, manyCommits((logRoom-275-19)/19, 11, 1)...)
		rest := logRoom - len(plainLog(full))
		full = append(full, commitRecord(len(full)+9, 2))
		d := laidDisk(c, make([]int, 3), plainLog(full)[:logRoom])
		s := wantOpened(t, "a log that is full and goes on", d)
		if rest >= 19 || s.Db.Lsn != 9+len(full)-1+lsnGap || s.Db.Next != 3 || s.Db.List[2] != gone {
			t.Errorf("a log that is full and goes on: Lsn %d, %v, %d bytes left", s.Db.Lsn, s.Db.List, rest)
		}
		exact := append(slices.Clone(images), manyCommits(180, 11, 1)...)
		exact = append(exact, tupleRecord(191, 0, 0, tupleOfSize(logRoom-275-181*19-19, 1)))
		if size := len(plainLog(exact)); size != logRoom {
			t.Fatalf("%d bytes", size)
		}
		s = wantOpened(t, "a log that is just full", laidDisk(impl.Control{Seq: 4, Area: area, Lsn: 9, Next: 401}, make([]int, 401), plainLog(exact)))
		if s.Db.Lsn != 9+len(exact)+lsnGap || len(impl.HeapRows(s.Db.Heap)) != 1 {
			t.Errorf("a log that is just full: Lsn %d, %v", s.Db.Lsn, s.Db.Heap)
		}
		other := laidDisk(c, make([]int, 3), plainLog(full)[:logRoom])
		next := other.Sectors[logOf(area)+64]
		copy(next, plainLogSector(4, 30, plainLog(full)[logRoom-11:]))
		if area == 0 {
			if s := wantOpened(t, "a full log, and another area that goes on", other); s.Db.List[2] != gone {
				t.Errorf("a full log goes on in the other area: %v", s.Db.List)
			}
		}
	}
}

func TestOpeningOfRecordsThatCannotBeDone(t *testing.T) {
	for _, of := range []struct {
		name string
		r    impl.Record
	}{
		{"a put that is too long", tupleRecord(0, 0, 15, tupleOfSize(92, 1))},
		{"a put of no tuple", dataRecord(0, 1, 1, []byte{1, 2, 3})},
		{"a mark of no tuple", markRecord(0, 3, 0, 9)},
		{"a mark in a page that is not there", markRecord(0, 3, 5, 0)},
		{"a clear of no tuple", clearRecord(0, 1, 4)},
		{"an image of no page", impl.Record{Kind: impl.RecImage, Page: 1, Data: someBytes(256, 5)}},
		{"an image of what is no tuple", impl.Record{Kind: impl.RecImage, Page: 1, Data: plainPage(sizedPage(3, 20))}},
	} {
		for at := range len(heldLog()) + 1 {
			log := slices.Insert(heldLog(), at, of.r)
			for i := range log {
				log[i].Lsn = 50 + i
			}
			pages := []impl.Page{pageWith(40, tupleOfSize(92, 2), tupleOfSize(92, 3)), heldPages()[1]}
			c := heldControl()
			c.Next = 401
			list := append(heldList(), make([]int, 395)...)
			wantBroken(t, fmt.Sprint(of.name, " at ", at), laidDisk(c, list, plainLog(log), pages...))
			for i := range pages {
				pages[i].Lsn = 60
			}
			log = log[:1]
			log[0] = of.r
			log[0].Lsn, log[0].Page = 50, of.r.Page%2
			if s := wantOpened(t, of.name+", over a younger page", laidDisk(c, list, plainLog(log), pages...)); s.Db.Lsn != 1051 {
				t.Errorf("%s, over a younger page: Lsn %d", of.name, s.Db.Lsn)
			}
		}
	}
}

// Pages are written down once each, rising, however often and in whatever order they stand in the log.
func TestOpeningWritesImagedPagesDown(t *testing.T) {
	c := impl.Control{Seq: 3, Area: 0, Lsn: 9, Next: 9, Pages: 4}
	for _, of := range []struct {
		pages []int
		want  []int
	}{{nil, nil}, {[]int{0}, []int{0}}, {[]int{2, 2}, []int{2}}, {[]int{3, 1}, []int{1, 3}}, {[]int{2, 0, 2, 0, 1}, []int{0, 1, 2}}, {[]int{15, 4, 15}, []int{4, 15}}} {
		log := []impl.Record{tupleRecord(9, 0, 3, versionOf(3, 0)), clearRecord(10, 1, 0), commitRecord(11, 2)}
		for _, page := range of.pages {
			log = append(log, imageOf(9+len(log), page, pageWith(1, versionOf(1, 0))))
		}
		d := laidDisk(c, make([]int, 9), plainLog(log), slices.Repeat([]impl.Page{pageWith(5, versionOf(2, 0), versionOf(3, 0))}, 4)...)
		whole := wantOpened(t, fmt.Sprint(of.pages), d)
		var order []int
		for _, page := range of.want {
			order = append(order, upTo(pageOf(page), pageOf(page)+3)...)
		}
		order = append(order, 4, 5)
		s := wantEnded(t, fmt.Sprint(of.pages), withFuse(d, len(order)), c)
		wantWaiting(t, fmt.Sprint("images of ", of.pages), s.Disk, order...)
		for _, w := range s.Disk.Waiting {
			if !bytes.Equal(w.Data, whole.Disk.Sectors[w.At]) {
				t.Errorf("images of %v: sector %d has other bytes", of.pages, w.At)
			}
		}
	}
}

// callsOf counts the calls to the disk that an opening needs.
func callsOf(t *testing.T, d impl.Disk) int {
	t.Helper()
	s, code := impl.StoreOpen(withFuse(d, 100000))
	if code != storeWell {
		t.Fatalf("an opening with a long fuse has code %d", code)
	}
	return 100000 - s.Disk.Fuse
}

// The fuse ends the opening at each of its calls: what was written up to then waits, in its order.
func TestOpeningIsEndedAtEachCall(t *testing.T) {
	d := heldDisk()
	whole := wantOpened(t, "whole", d)
	if n := callsOf(t, d); n != 8+2+1+1+1 {
		t.Fatalf("%d calls", n)
	}
	if n := callsOf(t, impl.DiskNew(diskSize)); n != 2+1+1+1 {
		t.Fatalf("%d calls for a new disk", n)
	}
	order := []int{138, 139, 140, 141, 142, 143, 144, 145, 2, 3}
	for fuse := range 10 {
		s := wantEnded(t, fmt.Sprint("fuse ", fuse), withFuse(d, fuse), heldControl())
		wantWaiting(t, fmt.Sprint("fuse ", fuse), s.Disk, order[:fuse]...)
		for i, w := range s.Disk.Waiting {
			if !bytes.Equal(w.Data, whole.Disk.Sectors[w.At]) {
				t.Errorf("fuse %d: write %d to sector %d has other bytes", fuse, i, w.At)
			}
		}
		if !s.Disk.Down || s.Disk.Fuse != 0 || !slices.EqualFunc(s.Disk.Sectors, d.Sectors, bytes.Equal) {
			t.Errorf("fuse %d: the disk has Down %t, Fuse %d", fuse, s.Disk.Down, s.Disk.Fuse)
		}
	}
	for fuse, waits := range map[int][]int{10: order, 11: nil, 12: {0}} {
		s := wantEnded(t, fmt.Sprint("fuse ", fuse), withFuse(d, fuse), heldControl())
		wantWaiting(t, fmt.Sprint("fuse ", fuse), s.Disk, waits...)
	}
	for _, fuse := range []int{13, 14, 600, math.MaxInt} {
		s := wantOpened(t, fmt.Sprint("fuse ", fuse), withFuse(d, fuse))
		if s.Disk.Fuse != fuse-13 || s.Disk.Down {
			t.Errorf("fuse %d: then %d", fuse, s.Disk.Fuse)
		}
	}
	for fuse := range 5 {
		s := wantEnded(t, "a new disk", withFuse(blankDisk(), fuse), firstControl())
		wantWaiting(t, fmt.Sprint("a new disk, fuse ", fuse), s.Disk, [][]int{nil, {2}, {2, 3}, nil, {1}}[fuse]...)
	}
	wantEnded(t, "Down", downed(d), heldControl())
	wantEnded(t, "Down, with a fuse", downed(withFuse(d, 50)), heldControl())
	wantEnded(t, "Down and new", downed(blankDisk()), firstControl())
}

// What waits ahead of an opening is read, and is safe behind it, as far as nothing was written over it.
func TestOpeningBehindWaitingWrites(t *testing.T) {
	held := heldDisk()
	waits := blankDisk()
	for at, sector := range held.Sectors {
		if len(bytes.Trim(sector, "\x00")) > 0 {
			waits.Waiting = append(waits.Waiting, impl.Write{At: at, Data: sector})
		}
	}
	want := wantOpened(t, "safe", held)
	wantStore(t, "all waits", wantOpened(t, "all waits", waits), want)
	for i := range waits.Waiting {
		wrong := changedDisk(waits, func(d *impl.Disk) {
			d.Waiting = slices.Insert(d.Waiting, i, impl.Write{At: d.Waiting[i].At, Data: sectorOf(i)})
		})
		wantStore(t, "written twice", wantOpened(t, "written twice", wrong), want)
	}
	for fuse := range 14 {
		d := withFuse(waits, fuse)
		if fuse < 13 {
			s := wantEnded(t, fmt.Sprint("waiting, fuse ", fuse), d, heldControl())
			if got := len(s.Disk.Waiting); fuse < 11 && got != len(waits.Waiting)+fuse {
				t.Errorf("fuse %d: %d writes wait", fuse, got)
			}
		} else {
			wantOpened(t, "waiting, a long fuse", d)
		}
	}
	for room := range 15 {
		d := heldDisk()
		for i := range mostWaiting - room {
			d.Waiting = append(d.Waiting, impl.Write{At: 190 + i%8, Data: make([]byte, 64)})
		}
		name := fmt.Sprint("room for ", room, " writes")
		if room >= 10 {
			wantStore(t, name, wantOpened(t, name, d), want)
			continue
		}
		s := wantEnded(t, name, d, heldControl())
		if len(s.Disk.Waiting) != mostWaiting || s.Disk.Down || s.Disk.Fuse != -1 {
			t.Errorf("%s: %d writes wait, Down %t, Fuse %d", name, len(s.Disk.Waiting), s.Disk.Down, s.Disk.Fuse)
		}
		s = wantEnded(t, name+", Down", downed(d), heldControl())
		if len(s.Disk.Waiting) != mostWaiting-room {
			t.Errorf("%s, Down: %d writes wait", name, len(s.Disk.Waiting))
		}
	}
}

// spoiltDisk changes a disk here and there; the seed says where.
func spoiltDisk(d impl.Disk, seed uint64) impl.Disk {
	d = cloneDisk(d)
	x := someBits(4, seed)
	for i := range int(x[0] >> 20 % 4) {
		y := someBits(5, x[1]+uint64(i))
		places := []int{0, 1, 2, 3, 4, 5, 6, 7, 8, 9, 10, 11, 70, 71, 72, 73, 74, 75, 134, 135, 136, 137, 138, 139, 140, 141, 145, 149, 197}
		at := places[y[0]>>20%uint64(len(places))]
		from := places[y[1]>>20%uint64(len(places))]
		switch y[2] >> 20 % 6 {
		case 0:
			d.Sectors[at][y[3]>>20%64] ^= byte(1 << (y[4] >> 20 % 8))
		case 1:
			clear(d.Sectors[at])
		case 2:
			copy(d.Sectors[at], d.Sectors[from])
		case 3:
			d.Waiting = append(d.Waiting, impl.Write{At: at, Data: bytes.Clone(d.Sectors[from])})
		case 4:
			d.Fuse = int(y[3] >> 20 % 30)
		case 5:
			d.Sectors[at][y[3]>>20%24] = byte(y[4] >> 20)
		}
	}
	return d
}

func TestOpeningsAreAsTheDocumentSays(t *testing.T) {
	codes := map[int]int{}
	for i, d := range storeKinds() {
		for seed := range uint64(15) {
			ops := drawStoreOps(d, seed+3000*uint64(i))
			left := impl.StoreRun(ops[:int(someBits(1, seed)[0]>>20%uint64(len(ops)+1))]).Store.Disk
			for turn := range uint64(12) {
				d := spoiltDisk(left, seed*100+turn)
				if turn%2 == 0 {
					d = plainCrash(d, someKeep(40, seed+turn))
				}
				_, code := wantOpenedAsPlainly(t, fmt.Sprint("kind ", i, ", seed ", seed, ", turn ", turn), d)
				codes[code]++
			}
		}
	}
	for i := range 3000 {
		_, code := wantOpenedAsPlainly(t, fmt.Sprint("held, turn ", i), spoiltDisk(heldDisk(), uint64(i)))
		codes[code]++
	}
	if codes[storeWell] < 1000 || codes[storeBroken] < 200 || codes[storeDown] < 500 {
		t.Errorf("the codes came %v times", codes)
	}
}
