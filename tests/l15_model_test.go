package tests

import (
	"bytes"
	"cmp"
	"fmt"
	"slices"
	"testing"

	"loop.example/g00252/impl"
)

// plainLive does what the document says of one op, word by word, over the plain readings of the chapters ahead.
type plainLive struct {
	db      impl.Db
	replies []impl.Reply
	ended   []int
}

func plainRun(ops []impl.Op) impl.Play {
	if len(ops) > mostOps {
		return impl.Play{}
	}
	p := &plainLive{db: plainFresh()}
	for _, o := range ops {
		p.one(o)
		for len(p.ended) > 0 {
			xid := p.ended[0]
			p.ended = p.ended[1:]
			p.wake(xid)
		}
	}
	return impl.Play{Replies: p.replies, Db: p.db}
}

func plainIsKey(a impl.Item) bool {
	return impl.ItemOk(a) && a.Kind != impl.ItNone
}

func plainCleanKey(a impl.Item) impl.Item {
	if a.Kind == impl.ItFloat && a.F == 0 {
		a.F = 0
	}
	return a
}

func plainOpOk(o impl.Op) bool {
	isSeat := o.Seat >= 0 && o.Seat < mostSeats
	switch o.Kind {
	case opBegin:
		return isSeat && (o.Level == 0 || o.Level == 1)
	case opGet, opDelete:
		return isSeat && plainIsKey(o.Key)
	case opPut:
		return isSeat && plainIsKey(o.Key) && plainIsKey(o.Value)
	case opScan:
		return isSeat && plainIsKey(o.Key) && plainIsKey(o.To) && o.N >= 0 && o.N <= mostTaken
	case opTotal:
		return isSeat && plainIsKey(o.Key) && plainIsKey(o.To)
	case opCommit, opAbort:
		return isSeat
	case opVacuum, opCheckpoint:
		return true
	case opEvict:
		return o.N >= 0 && o.N <= 15
	case opFuse:
		return o.N >= 0
	case opCrash:
		return len(o.Keep) <= 600
	}
	return false
}

// say gives a reply; what of it is not named is zero.
func (p *plainLive) say(o impl.Op, code int, n int) {
	p.replies = append(p.replies, impl.Reply{Seat: o.Seat, Kind: o.Kind, Code: code, N: n})
}

func (p *plainLive) one(o impl.Op) {
	switch {
	case !plainOpOk(o) || o.Kind > opVacuum:
		p.say(o, rpBad, 0)
	case o.Kind == opVacuum:
		p.vacuum(o)
	case p.db.Seats[o.Seat].Holder != 0:
		p.say(o, rpBusy, 0)
	case o.Kind == opBegin:
		p.begin(o)
	case !p.db.Seats[o.Seat].Open:
		p.say(o, rpShut, 0)
	default:
		o.Key, o.To = plainCleanKey(o.Key), plainCleanKey(o.To)
		p.own(o)
	}
}

func (p *plainLive) begin(o impl.Op) {
	if p.db.Seats[o.Seat].Open {
		p.say(o, rpOpen, 0)
		return
	}
	if o.Level == 1 && len(p.db.Tracks) == mostTracks {
		p.say(o, rpFull, 0)
		return
	}
	var running []int
	for xid := range p.db.Next {
		if slices.ContainsFunc(p.db.Seats, func(s impl.Seat) bool { return s.Open && s.Snap.Self == xid }) {
			running = append(running, xid)
		}
	}
	p.db.Clock++
	p.db.Seats[o.Seat] = impl.Seat{Open: true, Level: o.Level, Begun: p.db.Clock, Snap: impl.Snap{Self: p.db.Next, Running: running}}
	p.db.List = append(p.db.List, 0)
	if o.Level == 1 {
		p.db.Tracks, _ = plainBegin(p.db.Tracks, p.db.Next, p.db.Clock)
	}
	p.say(o, rpDone, p.db.Next)
	p.db.Next++
}

func (p *plainLive) own(o impl.Op) {
	switch o.Kind {
	case opGet:
		p.get(o)
	case opScan, opTotal:
		p.look(o)
	case opPut, opDelete:
		p.write(o)
	case opCommit:
		p.commit(o)
	case opAbort:
		p.giveUp(o, rpDone)
	}
}

// visible are the rows of a span that the seat sees, by their keys.
func (p *plainLive) visible(o impl.Op, s impl.Span) []impl.Row {
	var rows []impl.Row
	for _, r := range plainRows(p.db.Heap) {
		if plainIn(s, r.Tuple.Key) && plainVisible(p.db.Seats[o.Seat].Snap, p.db.List, r.Tuple.Xmin, r.Tuple.Xmax) {
			rows = append(rows, r)
		}
	}
	slices.SortStableFunc(rows, func(a impl.Row, b impl.Row) int {
		return bytes.Compare(plainKey(a.Tuple.Key), plainKey(b.Tuple.Key))
	})
	return rows
}

// reads tells whether the op goes on.
func (p *plainLive) reads(o impl.Op, s impl.Span) bool {
	seat := &p.db.Seats[o.Seat]
	if seat.Level == 0 {
		return true
	}
	tracks, code := plainReadOf(p.db.Tracks, seat.Snap.Self, s, mostReads)
	p.db.Tracks = tracks
	if code == edgeDanger {
		p.giveUp(o, rpSerial)
		return false
	}
	seat.Reads = append(seat.Reads, s)
	return true
}

// writes tells whether the op goes on.
func (p *plainLive) writes(o impl.Op) bool {
	seat := &p.db.Seats[o.Seat]
	if seat.Level == 0 {
		return true
	}
	tracks, code := plainWriteOf(p.db.Tracks, seat.Snap.Self, o.Key, mostReads)
	p.db.Tracks = tracks
	if code == edgeDanger {
		p.giveUp(o, rpSerial)
		return false
	}
	return true
}

func (p *plainLive) get(o impl.Op) {
	key := impl.Span{From: o.Key, To: o.Key}
	if !p.reads(o, key) {
		return
	}
	rows := p.visible(o, key)
	if len(rows) == 0 {
		p.say(o, rpNone, 0)
		return
	}
	p.say(o, rpDone, 0)
	p.replies[len(p.replies)-1].Value = rows[0].Tuple.Value
}

func (p *plainLive) look(o impl.Op) {
	span := impl.Span{From: o.Key, To: o.To}
	if plainSpanOk(span) && !p.reads(o, span) {
		return
	}
	reply := impl.Reply{Seat: o.Seat, Kind: o.Kind}
	for _, r := range p.visible(o, span) {
		if o.Kind == opScan {
			reply.N++
			if reply.N <= o.N {
				reply.Rows = append(reply.Rows, impl.Pair{Key: r.Tuple.Key, Value: r.Tuple.Value})
			}
		} else if r.Tuple.Value.Kind == impl.ItFloat {
			reply.N++
			reply.Total += r.Tuple.Value.F
		}
	}
	p.replies = append(p.replies, reply)
}

// holder is who holds a key; 0, where nobody does.
func (p *plainLive) holder(o impl.Op) int {
	self := p.db.Seats[o.Seat].Snap.Self
	for _, r := range plainVersions(p.db.Heap, o.Key) {
		if r.Tuple.Xmin != self && plainStatusOf(p.db.List, r.Tuple.Xmin) == running {
			return r.Tuple.Xmin
		}
		if r.Tuple.Xmax != 0 && r.Tuple.Xmax != self && plainStatusOf(p.db.List, r.Tuple.Xmax) == running {
			return r.Tuple.Xmax
		}
	}
	return 0
}

func (p *plainLive) isLate(o impl.Op) bool {
	seat := p.db.Seats[o.Seat]
	late := func(xid int) bool {
		return plainStatusOf(p.db.List, xid) == done && !plainSees(seat.Snap, p.db.List, xid)
	}
	return slices.ContainsFunc(plainVersions(p.db.Heap, o.Key), func(r impl.Row) bool {
		return late(r.Tuple.Xmin) || r.Tuple.Xmax != 0 && late(r.Tuple.Xmax)
	})
}

func (p *plainLive) wait(o impl.Op, holder int) {
	seat := &p.db.Seats[o.Seat]
	var waits []impl.Wait
	for _, s := range p.db.Seats {
		if s.Holder != 0 {
			waits = append(waits, impl.Wait{Who: s.Snap.Self, For: s.Holder})
		}
	}
	if plainWaitCloses(waits, seat.Snap.Self, holder) {
		p.giveUp(o, rpDeadlock)
		return
	}
	p.db.Turns++
	seat.Holder, seat.Since = holder, p.db.Turns
	seat.Waits = impl.Op{Kind: o.Kind, Seat: o.Seat, Key: o.Key}
	if o.Kind == opPut {
		seat.Waits.Value = o.Value
	}
	p.say(o, rpWait, holder)
}

func (p *plainLive) write(o impl.Op) {
	if holder := p.holder(o); holder != 0 {
		p.wait(o, holder)
		return
	}
	if p.isLate(o) {
		p.giveUp(o, rpConflict)
		return
	}
	key := impl.Span{From: o.Key, To: o.Key}
	rows := p.visible(o, key)
	if o.Kind == opDelete && len(rows) == 0 {
		if p.reads(o, key) {
			p.say(o, rpNone, 0)
		}
		return
	}
	if !p.writes(o) {
		return
	}
	seat := &p.db.Seats[o.Seat]
	self := seat.Snap.Self
	tuple := impl.Tuple{Xmin: self, Key: o.Key, Value: o.Value}
	page, slot := -1, -1
	if o.Kind == opPut {
		page, slot = plainHeapPlace(p.db.Heap, len(plainTuple(tuple)))
		if page < 0 {
			p.giveUp(o, rpFull)
			return
		}
	}
	var needed []impl.Record
	for _, r := range rows {
		needed = append(needed, impl.Record{Kind: impl.RecMark, Page: r.Page})
	}
	if o.Kind == opPut {
		needed = append(needed, impl.Record{Kind: impl.RecPut, Page: page, Data: plainTuple(tuple)})
	}
	if !p.hasRoom(needed...) {
		p.giveUp(o, rpFull)
		return
	}
	for _, r := range rows {
		lsn := p.log(impl.Record{Kind: impl.RecMark, Xid: self, Page: r.Page, Slot: r.Slot})
		p.db.Heap, _ = plainHeapMark(p.db.Heap, r.Page, r.Slot, self, lsn)
	}
	n := 0
	if o.Kind == opPut {
		lsn := p.log(impl.Record{Kind: impl.RecPut, Xid: self, Page: page, Slot: slot, Data: plainTuple(tuple)})
		p.db.Heap, _ = plainHeapPut(p.db.Heap, page, slot, tuple, lsn)
		p.db.Tree, _ = plainTreeAdd(p.db.Tree, o.Key, 16*page+slot)
		n = len(rows)
	}
	seat.Writes = append(seat.Writes, o.Key)
	p.say(o, rpDone, n)
}

// hasRoom tells whether these records have room, with the images that would come ahead of them.
func (p *plainLive) hasRoom(l ...impl.Record) bool {
	need := 0
	imaged := slices.Clone(p.db.Imaged)
	for _, r := range l {
		if r.Kind != impl.RecCommit && !slices.Contains(imaged, r.Page) {
			imaged = append(imaged, r.Page)
			need += len(plainRecord(imageRecord(1, 0)))
		}
		need += len(plainRecord(r))
	}
	return p.db.Room == -1 || need <= p.db.Room
}

// log tells the record's number; an image of its page comes ahead of it, where there is none yet.
func (p *plainLive) log(r impl.Record) int {
	isOfPage := r.Kind == impl.RecPut || r.Kind == impl.RecMark || r.Kind == impl.RecClear
	if isOfPage && !slices.Contains(p.db.Imaged, r.Page) {
		var page impl.Page
		if r.Page < len(p.db.Heap.Pages) {
			page = p.db.Heap.Pages[r.Page]
		}
		p.log(impl.Record{Kind: impl.RecImage, Page: r.Page, Data: plainPage(page)})
		p.db.Imaged = append(p.db.Imaged, r.Page)
		slices.Sort(p.db.Imaged)
	}
	r.Lsn = p.db.Lsn
	p.db.Lsn++
	p.db.Log = append(p.db.Log, r)
	if p.db.Room != -1 {
		p.db.Room -= len(plainRecord(r))
	}
	return r.Lsn
}

func (p *plainLive) commit(o impl.Op) {
	seat := p.db.Seats[o.Seat]
	self := seat.Snap.Self
	tracks, code := p.db.Tracks, edgeWell
	if seat.Level == 1 {
		tracks, code = plainEndOf(tracks, self, p.db.Clock+1, true, mostReads)
	}
	switch {
	case code == edgeDanger:
		p.giveUp(o, rpSerial)
		return
	case len(seat.Writes) > 0 && !p.hasRoom(commitRecord(1, self)):
		p.giveUp(o, rpFull)
		return
	}
	p.db.Tracks = tracks
	if seat.Level == 1 {
		p.db.Deeds = append(p.db.Deeds, impl.Deed{Xid: self, Begun: seat.Begun, Ended: p.db.Clock + 1, Reads: seat.Reads, Writes: seat.Writes})
	}
	if len(seat.Writes) > 0 {
		p.log(impl.Record{Kind: impl.RecCommit, Xid: self})
	}
	p.db.Clock++
	p.over(o, done)
	p.say(o, rpDone, self)
}

func (p *plainLive) giveUp(o impl.Op, code int) {
	p.db.Clock++
	if seat := p.db.Seats[o.Seat]; seat.Level == 1 {
		p.db.Tracks, _ = plainEndOf(p.db.Tracks, seat.Snap.Self, p.db.Clock, false, mostReads)
	}
	p.over(o, gone)
	p.say(o, code, 0)
}

func (p *plainLive) over(o impl.Op, status int) {
	xid := p.db.Seats[o.Seat].Snap.Self
	p.db.List[xid] = status
	p.db.Seats[o.Seat] = impl.Seat{}
	p.ended = append(p.ended, xid)
}

func (p *plainLive) wake(xid int) {
	var held []impl.Seat
	for i, s := range p.db.Seats {
		if s.Holder == xid {
			held = append(held, s)
			p.db.Seats[i].Waits, p.db.Seats[i].Holder, p.db.Seats[i].Since = impl.Op{}, 0, 0
		}
	}
	slices.SortFunc(held, func(a impl.Seat, b impl.Seat) int { return cmp.Compare(a.Since, b.Since) })
	for _, s := range held {
		p.own(s.Waits)
	}
}

func (p *plainLive) vacuum(o impl.Op) {
	var snaps []impl.Snap
	for _, s := range p.db.Seats {
		if s.Open {
			snaps = append(snaps, s.Snap)
		}
	}
	dead := plainHeapDead(p.db.Heap, p.db.List, plainHorizon(snaps, p.db.Next))
	var needed []impl.Record
	for _, r := range dead {
		needed = append(needed, impl.Record{Kind: impl.RecClear, Page: r.Page})
	}
	if !p.hasRoom(needed...) {
		p.say(o, rpFull, 0)
		return
	}
	for _, r := range dead {
		lsn := p.log(impl.Record{Kind: impl.RecClear, Page: r.Page, Slot: r.Slot})
		p.db.Heap, _ = plainHeapClear(p.db.Heap, r.Page, r.Slot, lsn)
		p.db.Tree, _ = plainTreeDrop(p.db.Tree, r.Tuple.Key, 16*r.Page+r.Slot)
	}
	p.say(o, rpDone, len(dead))
}

// wantAsPlainly holds a run against the plain reading, reply by reply and field by field.
func wantAsPlainly(t *testing.T, name string, ops []impl.Op) impl.Play {
	t.Helper()
	got, want := impl.LiveRun(ops), plainRun(ops)
	for i := range min(len(got.Replies), len(want.Replies)) {
		if !sameReply(got.Replies[i], want.Replies[i]) {
			t.Fatalf("%s: reply %d is %q, want %q", name, i, wordsOf(got.Replies[i]), wordsOf(want.Replies[i]))
		}
	}
	if len(got.Replies) != len(want.Replies) {
		t.Fatalf("%s: %d replies, want %d", name, len(got.Replies), len(want.Replies))
	}
	if field := otherField(got.Db, want.Db); field != "" {
		t.Fatalf("%s: %s is another one behind %d ops", name, field, len(ops))
	}
	return got
}

// drawn says what ops a drawn script has.
type drawn struct {
	n      int         // how many
	seats  int         // of how many seats
	keys   []impl.Item // of which keys
	values []impl.Item // with which values
	levels []int       // of which Levels
	wrong  bool        // whether some are not OpOk
	vacuum bool        // whether some are clean-ups
	spans  bool        // whether some are scans and totals
}

// drawOps draws a script; the seed fixes it. A seat that was opened mostly goes on, and one that was not mostly begins.
func drawOps(d drawn, seed uint64) []impl.Op {
	var ops []impl.Op
	var isOpen [mostSeats]bool
	kinds := slices.Concat(sameOf(1, opBegin), sameOf(6, opGet), sameOf(7, opPut), sameOf(3, opDelete), sameOf(3, opScan), sameOf(2, opTotal), sameOf(4, opCommit), sameOf(1, opAbort), sameOf(1, opVacuum))
	for _, x := range someBits(4*d.n+400, seed*2654435761+17) {
		if len(ops) == d.n {
			break
		}
		y := someBits(9, x)
		pick := func(i int, n int) int { return int(y[i] >> 20 % uint64(n)) }
		o := impl.Op{
			Kind:  kinds[pick(0, len(kinds))],
			Seat:  pick(1, d.seats),
			Level: d.levels[pick(2, len(d.levels))],
			Key:   d.keys[pick(3, len(d.keys))],
			To:    d.keys[pick(4, len(d.keys))],
			Value: d.values[pick(5, len(d.values))],
			N:     pick(6, 4),
		}
		if !isOpen[o.Seat] && pick(8, 8) > 0 {
			o.Kind = opBegin
		}
		if (o.Kind == opScan || o.Kind == opTotal) && !d.spans || o.Kind == opVacuum && !d.vacuum {
			continue
		}
		isOpen[o.Seat] = o.Kind == opBegin || isOpen[o.Seat] && o.Kind != opCommit && o.Kind != opAbort
		if d.wrong && pick(7, 40) == 0 {
			o = []impl.Op{{Kind: o.Kind, Seat: o.Seat}, {Kind: opPut, Seat: mostSeats, Key: o.Key, Value: o.Value}, {Kind: opScan, Seat: o.Seat, Key: o.Key, To: o.To, N: -1}, {Kind: opCheckpoint}, {Kind: opCrash}, {Kind: 14}, {}}[pick(6, 7)]
		}
		ops = append(ops, o)
	}
	return cloneOps(ops)
}

func drawnKeys() []impl.Item {
	return []impl.Item{intItem(1), intItem(2), intItem(3), floatItem(minusNought()), floatItem(0.5), textItem(""), textItem("a"), floatItem(plainNaN())}
}

func drawnValues() []impl.Item {
	return []impl.Item{intItem(7), intItem(-8), floatItem(0.5), floatItem(minusNought()), floatItem(1e300), textItem("value"), longText("v")}
}

// manyLongKeys are so many, and so long, that a heap is soon full of them.
func manyLongKeys() []impl.Item {
	var keys []impl.Item
	for c := 'A'; c <= 'z'; c++ {
		keys = append(keys, longText(string(c)))
	}
	return keys
}

// drawnKinds are scripts of different sorts: crowded and lonely ones, of one Level and of both, short and as long as may be.
func drawnKinds() []drawn {
	keys, values := drawnKeys(), drawnValues()
	return []drawn{
		{n: 30, seats: 2, keys: keys[:2], values: values, levels: []int{0}, vacuum: true, spans: true},
		{n: 60, seats: 3, keys: keys[:3], values: values, levels: []int{0}, vacuum: true, spans: true, wrong: true},
		{n: 60, seats: 3, keys: keys[:3], values: values, levels: []int{1}, vacuum: true, spans: true},
		{n: 80, seats: 8, keys: keys[:4], values: values, levels: []int{0}, vacuum: true, wrong: true},
		{n: 80, seats: 8, keys: keys, values: values, levels: []int{1}, vacuum: true},
		{n: 100, seats: 5, keys: keys, values: values, levels: []int{0, 1}, vacuum: true, spans: true, wrong: true},
		{n: 100, seats: 4, keys: keys, values: values, levels: []int{1}, spans: true},
		{n: mostOps, seats: 8, keys: keys, values: values, levels: []int{0, 1}, vacuum: true, spans: true},
		{n: mostOps, seats: 4, keys: manyLongKeys(), values: values[6:], levels: []int{0, 0, 1}},
	}
}

func TestRunsAreAsTheDocumentSays(t *testing.T) {
	seen := map[[2]int]int{}
	for i, d := range drawnKinds() {
		for seed := range uint64(120) {
			p := wantAsPlainly(t, fmt.Sprint("kind ", i, ", seed ", seed), drawOps(d, seed+1000*uint64(i)))
			for _, r := range p.Replies {
				seen[[2]int{r.Kind, r.Code}]++
			}
		}
	}
	for _, want := range [][2]int{
		{opBegin, rpDone}, {opBegin, rpOpen}, {opBegin, rpBusy}, {opGet, rpDone}, {opGet, rpNone}, {opGet, rpShut}, {opGet, rpSerial},
		{opPut, rpDone}, {opPut, rpWait}, {opPut, rpBusy}, {opPut, rpShut}, {opPut, rpConflict}, {opPut, rpDeadlock}, {opPut, rpSerial}, {opPut, rpFull}, {opPut, rpBad},
		{opDelete, rpDone}, {opDelete, rpNone}, {opDelete, rpWait}, {opDelete, rpConflict}, {opDelete, rpDeadlock}, {opDelete, rpSerial},
		{opScan, rpDone}, {opScan, rpSerial}, {opTotal, rpDone}, {opTotal, rpSerial}, {opCommit, rpDone}, {opCommit, rpSerial}, {opAbort, rpDone}, {opVacuum, rpDone},
	} {
		if seen[want] < 10 {
			t.Errorf("%s %s came %d times alone", opNames()[want[0]], codeNames()[want[1]], seen[want])
		}
	}
}

// Behind each op, and not at the end of a script alone.
func TestRunsAreAsTheDocumentSaysBehindEachOp(t *testing.T) {
	for i, d := range drawnKinds() {
		for seed := range uint64(3) {
			ops := drawOps(d, seed+77*uint64(i))
			for n := range min(len(ops), 70) {
				wantAsPlainly(t, fmt.Sprint("kind ", i, ", seed ", seed, ", up to ", n), ops[:n])
			}
		}
	}
}
