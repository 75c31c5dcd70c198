package tests

import (
	"bytes"
	"fmt"
	"slices"
	"testing"

	"loop.example/g00252/impl"
)

// plainKeeper does what the document says of chapter 17, word by word, over the plain readings of the chapters ahead.
type plainKeeper struct {
	disk    impl.Disk
	control impl.Control
	live    *plainLive
	safe    int
	isDead  bool
}

// call is a call to the disk that the fuse counts, a sync where there are no data; whether it was well.
func (k *plainKeeper) call(at int, data []byte) bool {
	d := &k.disk
	switch {
	case data != nil && len(d.Waiting) == mostWaiting:
		return false
	case d.Down || d.Fuse == 0:
		d.Down = true
		return false
	case d.Fuse > 0:
		d.Fuse--
	}
	if data != nil {
		d.Waiting = append(d.Waiting, impl.Write{At: at, Data: data})
		return true
	}
	for _, w := range d.Waiting {
		d.Sectors[w.At] = bytes.Clone(w.Data)
	}
	d.Waiting = nil
	return true
}

func (k *plainKeeper) sync() bool {
	return k.call(0, nil)
}

// write lays bytes into sectors that rise, up to the first that is not taken.
func (k *plainKeeper) write(at int, b []byte) bool {
	for i := 0; i < len(b); i += sectorSize {
		if !k.call(at+i/sectorSize, bytes.Clone(b[i:i+sectorSize])) {
			return false
		}
	}
	return true
}

func (k *plainKeeper) writePage(page int) bool {
	return k.write(pageOf(page), plainPage(k.live.db.Heap.Pages[page]))
}

func (k *plainKeeper) writeDown(dirty []int) bool {
	db := &k.live.db
	for _, page := range dirty {
		if !k.writePage(page) {
			return false
		}
	}
	next := impl.Control{Seq: k.control.Seq + 1, Area: 1 - k.control.Area, Lsn: db.Lsn, Next: db.Next, Pages: len(db.Heap.Pages)}
	if !k.write(statusesAt(next.Area), plainPadded(plainStatusBytes(db.List), 2*sectorSize)) || !k.sync() {
		return false
	}
	if !k.write(next.Seq&1, plainControl(next)) || !k.sync() {
		return false
	}
	k.control, k.safe, db.Log, db.Imaged, db.Room = next, 0, nil, nil, logRoom
	return true
}

func (k *plainKeeper) flush() bool {
	b := plainLog(k.live.db.Log)
	if len(b) <= k.safe {
		return true
	}
	for i := k.safe / logBody; i <= (len(b)-1)/logBody; i++ {
		part := b[i*logBody : min((i+1)*logBody, len(b))]
		if !k.write(logOf(k.control.Area)+i, plainLogSector(k.control.Seq, len(part), part)) {
			return false
		}
	}
	if !k.sync() {
		return false
	}
	k.safe = len(b)
	return true
}

func (k *plainKeeper) store() impl.Store {
	switch {
	case k.isDead:
		return deadStore(k.disk, k.control)
	case k.live == nil:
		return impl.Store{}
	}
	return impl.Store{Disk: k.disk, Control: k.control, Db: k.live.db, Safe: k.safe}
}

// plainControlRead tells the control of a sector, if there is one.
func plainControlRead(b []byte) (impl.Control, bool) {
	number := func(at int, size int) int {
		n := 0
		for i := at + size - 1; i >= at; i-- {
			n = n*256 + int(b[i])
		}
		return n
	}
	if len(b) != sectorSize {
		return impl.Control{}, false
	}
	c := impl.Control{Seq: number(3, 4), Area: number(7, 1), Lsn: number(8, 4), Next: number(12, 4), Pages: number(16, 1)}
	if !plainControlOk(c) || !bytes.Equal(plainControl(c), b) {
		return impl.Control{}, false
	}
	return c, true
}

func plainLatest(d impl.Disk) (impl.Control, bool) {
	first, isFirst := plainControlRead(readOf(d, 0, 1))
	second, isSecond := plainControlRead(readOf(d, 1, 1))
	switch {
	case isFirst && isSecond && second.Seq > first.Seq, isSecond && !isFirst:
		return second, true
	case isFirst:
		return first, true
	}
	return impl.Control{Seq: 0, Area: 1, Lsn: 1, Next: 1, Pages: 0}, len(bytes.Trim(readOf(d, 0, diskSize), "\x00")) == 0
}

func plainHeapOn(d impl.Disk, c impl.Control) impl.Heap {
	var all impl.Heap
	for page := range mostPages {
		p, isPage := plainPageRead(readOf(d, pageOf(page), 4))
		if !isPage || !plainHeapOk(heapOf(p)) {
			p = impl.Page{}
		}
		all.Pages = append(all.Pages, p)
	}
	for n := mostPages; n > c.Pages && samePage(all.Pages[n-1], impl.Page{}); n-- {
		all.Pages = all.Pages[:n-1]
	}
	return all
}

func plainLogged(d impl.Disk, c impl.Control) []byte {
	var all []byte
	for i := range logCount {
		b := readOf(d, logOf(c.Area)+i, 1)
		seq, count := int(b[0])+int(b[1])<<8+int(b[2])<<16+int(b[3])<<24, int(b[4])
		if seq != c.Seq || count > logBody {
			break
		}
		all = append(all, b[5:5+count]...)
		if count < logBody {
			break
		}
	}
	return all
}

// plainRestored is the Db that a disk has by a control, and the pages of which an image was logged.
func plainRestored(d impl.Disk, c impl.Control) (impl.Db, []int, bool) {
	list, isList := plainStatusRead(readOf(d, statusesAt(c.Area), 2)[:(c.Next+3)/4], c.Next)
	l, _ := plainScan(plainLogged(d, c), c.Lsn)
	h, n := plainRedoAll(plainHeapOn(d, c), l)
	if !isList || n < len(l) {
		return impl.Db{}, nil, false
	}
	db := plainFresh()
	db.Heap = h
	db.List, db.Next = plainRedoList(list, l, c.Next)
	db.Lsn = c.Lsn + len(l) + lsnGap
	for _, r := range plainRows(h) {
		if r.Tuple.Xmin >= db.Next || r.Tuple.Xmax >= db.Next {
			return impl.Db{}, nil, false
		}
		db.Tree, _ = plainTreeAdd(db.Tree, r.Tuple.Key, r.Page*16+r.Slot)
	}
	var dirty []int
	for page := range mostPages {
		if slices.ContainsFunc(l, func(r impl.Record) bool { return r.Kind == impl.RecImage && r.Page == page }) {
			dirty = append(dirty, page)
		}
	}
	return db, dirty, db.Lsn <= lastLsn && c.Seq < lastSeq
}

func plainOpen(d impl.Disk) (*plainKeeper, int) {
	if !impl.DiskOk(d) || len(d.Sectors) != diskSize {
		return &plainKeeper{}, storeBroken
	}
	c, isThere := plainLatest(d)
	if !isThere {
		return &plainKeeper{}, storeBroken
	}
	db, dirty, isWell := plainRestored(d, c)
	if !isWell {
		return &plainKeeper{}, storeBroken
	}
	k := &plainKeeper{disk: cloneDisk(d), control: c, live: &plainLive{db: db}}
	if !k.writeDown(dirty) {
		k.isDead = true
		return k, storeDown
	}
	return k, storeWell
}

// do does what the op asks for, and tells its replies; false, where the disk ends it.
func (k *plainKeeper) do(o impl.Op) ([]impl.Reply, bool) {
	p := k.live
	p.replies = nil
	switch o.Kind {
	case opFuse:
		k.disk.Fuse = o.N
		p.say(o, rpDone, 0)
		return p.replies, true
	case opCheckpoint:
		p.say(o, rpDone, 0)
		return p.replies, k.flush() && k.writeDown(p.db.Imaged)
	case opEvict:
		if o.N >= len(p.db.Heap.Pages) {
			p.say(o, rpNone, 0)
			return p.replies, true
		}
		p.say(o, rpDone, 0)
		return p.replies, k.flush() && k.writePage(o.N)
	}
	logged := len(p.db.Log)
	p.one(o)
	for len(p.ended) > 0 {
		xid := p.ended[0]
		p.ended = p.ended[1:]
		p.wake(xid)
	}
	for _, r := range p.db.Log[logged:] {
		if r.Kind == impl.RecCommit {
			return p.replies, k.flush()
		}
	}
	return p.replies, true
}

func (k *plainKeeper) one(o impl.Op) []impl.Reply {
	only := impl.Reply{Seat: o.Seat, Kind: o.Kind}
	switch {
	case !plainOpOk(o):
		only.Code = rpBad
	case o.Kind == opCrash:
		if !k.isDead {
			for _, s := range k.live.db.Seats {
				only.N += oneIf(s.Open)
			}
		}
		opened, code := plainOpen(plainCrash(k.disk, o.Keep))
		*k = *opened
		if code != storeWell {
			only.Code, only.N = rpDown, 0
		}
	case k.isDead:
		only.Code = rpDown
	default:
		replies, isWell := k.do(o)
		if isWell {
			return replies
		}
		k.isDead = true
		only.Code = rpDown
	}
	return []impl.Reply{only}
}

func plainStoreRun(ops []impl.Op) impl.Run {
	if len(ops) > mostOps {
		return impl.Run{}
	}
	k, _ := plainOpen(blankDisk())
	var replies []impl.Reply
	for _, o := range ops {
		replies = append(replies, k.one(o)...)
	}
	return impl.Run{Replies: replies, Store: k.store()}
}

// wantStoredAsPlainly holds a run against the plain reading, reply by reply and field by field.
func wantStoredAsPlainly(t *testing.T, name string, ops []impl.Op) impl.Run {
	t.Helper()
	got, want := impl.StoreRun(ops), plainStoreRun(ops)
	for i := range min(len(got.Replies), len(want.Replies)) {
		if !sameReply(got.Replies[i], want.Replies[i]) {
			t.Fatalf("%s: reply %d is %q, want %q", name, i, wordsOf(got.Replies[i]), wordsOf(want.Replies[i]))
		}
	}
	if len(got.Replies) != len(want.Replies) {
		t.Fatalf("%s: %d replies, want %d", name, len(got.Replies), len(want.Replies))
	}
	if field := otherStoreField(got.Store, want.Store); field != "" {
		t.Fatalf("%s: %s is another one behind %d ops", name, field, len(ops))
	}
	return got
}

// wantOpenedAsPlainly holds the opening of a disk against the plain reading.
func wantOpenedAsPlainly(t *testing.T, name string, d impl.Disk) (impl.Store, int) {
	t.Helper()
	got, code := impl.StoreOpen(d)
	k, want := plainOpen(d)
	if code != want {
		t.Errorf("%s: StoreOpen has code %d, want %d", name, code, want)
		return got, code
	}
	wantStore(t, name, got, k.store())
	return got, code
}

// storeDrawn says what else a drawn script of a store has.
type storeDrawn struct {
	drawn
	parts      int // in how many parts it is cut by crashes
	checkpoint int // one behind so many ops; 0: none
	evict      int
	fuse       int
	probe      bool // whether a reader looks at all behind each crash
}

// probe is a transaction that reads all that there is.
func probe() []impl.Op {
	return []impl.Op{{Kind: opBegin, Seat: 7}, {Kind: opScan, Seat: 7, Key: floorKey(), To: ceilingKey(), N: mostTaken}, {Kind: opCommit, Seat: 7}}
}

// someCrash keeps none, all, a beginning, or some of what waits.
func someCrash(seed uint64) impl.Op {
	x := someBits(2, seed)
	o := impl.Op{Kind: opCrash, Seat: int(x[1] >> 20 % 3)}
	n := int(x[0] >> 30 % 40)
	switch x[0] >> 20 % 5 {
	case 0:
	case 1, 2:
		o.Keep = keepOf("all")
	case 3:
		o.Keep = slices.Repeat([]bool{true}, n/4)
	default:
		o.Keep = someKeep(n, x[1])
	}
	return o
}

// drawStoreOps draws a script; the seed fixes it.
func drawStoreOps(d storeDrawn, seed uint64) []impl.Op {
	var ops []impl.Op
	for part := range d.parts {
		one := d.drawn
		one.n = d.n / d.parts
		seed := seed*64 + uint64(part)
		for i, o := range drawOps(one, seed) {
			ops = append(ops, o)
			x := someBits(6, seed*1024+uint64(i))
			if d.evict > 0 && x[0]>>20%uint64(d.evict) == 0 {
				ops = append(ops, impl.Op{Kind: opEvict, N: []int{0, 0, 0, 1, 1, 2, 3, 15}[x[1]>>20%8]})
			}
			if d.checkpoint > 0 && x[2]>>20%uint64(d.checkpoint) == 0 {
				ops = append(ops, impl.Op{Kind: opCheckpoint})
			}
			if d.fuse > 0 && x[3]>>20%uint64(d.fuse) == 0 {
				ops = append(ops, impl.Op{Kind: opFuse, N: []int{0, 1, 2, 3, 4, 5, 6, 7, 8, 9, 10, 12, 14, 17, 20, 30}[x[4]>>20%16]})
			}
		}
		ops = append(ops, someCrash(seed))
		if d.probe {
			ops = append(ops, probe()...)
		}
	}
	return ops[:min(len(ops), mostOps)]
}

// storeKinds are scripts of different sorts; those of the first drawnKinds have ops that are not OpOk too.
func storeKinds() []storeDrawn {
	var kinds []storeDrawn
	for i, d := range drawnKinds() {
		kinds = append(kinds, storeDrawn{drawn: d, parts: 1 + i%4, checkpoint: 14, evict: 9, fuse: 20})
	}
	keys, values := drawnKeys(), drawnValues()
	return append(kinds,
		storeDrawn{drawn: drawn{n: 60, seats: 2, keys: keys[:3], values: values, levels: []int{0}}, parts: 6, fuse: 9},
		storeDrawn{drawn: drawn{n: 100, seats: 3, keys: keys, values: values, levels: []int{0, 1}, vacuum: true, spans: true}, parts: 5, checkpoint: 8, evict: 4, fuse: 12},
		storeDrawn{drawn: drawn{n: 120, seats: 2, keys: manyLongKeys(), values: values[6:], levels: []int{0}}, parts: 2},
		storeDrawn{drawn: drawn{n: 120, seats: 4, keys: manyLongKeys()[:12], values: values[5:], levels: []int{0}, vacuum: true}, parts: 3, checkpoint: 10, evict: 6, fuse: 30},
		storeDrawn{drawn: drawn{n: 150, seats: 6, keys: keys[:5], values: values, levels: []int{0, 1}, vacuum: true}, parts: 3, checkpoint: 12, evict: 5},
		storeDrawn{drawn: drawn{n: 80, seats: 3, keys: keys, values: values, levels: []int{0, 0, 1}, spans: true}, parts: 20, checkpoint: 9, evict: 5, fuse: 9},
		storeDrawn{drawn: drawn{n: 195, seats: 2, keys: slices.Concat(keys[:3], manyLongKeys()[:3]), values: values, levels: []int{0, 1}}, parts: 1},
	)
}

func TestStoresAreAsTheDocumentSays(t *testing.T) {
	seen := map[[2]int]int{}
	for i, d := range storeKinds() {
		for seed := range uint64(50) {
			run := wantStoredAsPlainly(t, fmt.Sprint("kind ", i, ", seed ", seed), drawStoreOps(d, seed+1000*uint64(i)))
			for _, r := range run.Replies {
				seen[[2]int{r.Kind, r.Code}]++
			}
		}
	}
	for _, want := range [][2]int{
		{opBegin, rpDone}, {opBegin, rpDown}, {opGet, rpDone}, {opPut, rpBad}, {opGet, rpDown}, {opPut, rpDone}, {opPut, rpDown}, {opPut, rpFull}, {opPut, rpWait}, {opPut, rpConflict},
		{opDelete, rpDone}, {opDelete, rpFull}, {opCommit, rpDone}, {opCommit, rpDown}, {opCommit, rpFull}, {opAbort, rpDone}, {opVacuum, rpDone}, {opVacuum, rpDown},
		{opCheckpoint, rpDone}, {opCheckpoint, rpDown}, {opEvict, rpDone}, {opEvict, rpNone}, {opEvict, rpDown}, {opFuse, rpDone}, {opFuse, rpDown}, {opCrash, rpDone},
	} {
		if seen[want] < 10 {
			t.Errorf("%s %s came %d times alone", opNames()[want[0]], codeNames()[want[1]], seen[want])
		}
	}
}

// Behind each op, and not at the end of a script alone.
func TestStoresAreAsTheDocumentSaysBehindEachOp(t *testing.T) {
	for i, d := range storeKinds() {
		ops := drawStoreOps(d, 77*uint64(i))
		for n := range min(len(ops), 80) {
			wantStoredAsPlainly(t, fmt.Sprint("kind ", i, ", up to ", n), ops[:n])
		}
	}
}
