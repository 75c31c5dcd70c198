package tests

import (
	"cmp"
	"slices"
	"testing"

	"loop.example/g00252/impl"
)

// plainStore is a map from the bytes of keys to keys and values.
type plainStore map[string]impl.Pair

func (m plainStore) clone() plainStore {
	c := plainStore{}
	for key, pair := range m {
		c[key] = pair
	}
	return c
}

func (m plainStore) put(key impl.Item, value impl.Item) {
	key = plainCleanKey(key)
	m[string(plainKey(key))] = impl.Pair{Key: key, Value: value}
}

func (m plainStore) has(key impl.Item) bool {
	_, isThere := m[string(plainKey(plainCleanKey(key)))]
	return isThere
}

// in are those whose keys are in a span, by their keys.
func (m plainStore) in(from impl.Item, to impl.Item) []impl.Pair {
	var l []impl.Pair
	for _, pair := range m {
		if plainIn(impl.Span{From: plainCleanKey(from), To: plainCleanKey(to)}, pair.Key) {
			l = append(l, pair)
		}
	}
	slices.SortFunc(l, func(a impl.Pair, b impl.Pair) int { return slices.Compare(plainKey(a.Key), plainKey(b.Key)) })
	return l
}

// do does an op over the map alone, as if nobody else were there, and tells the reply; only ops that read and write.
func (m plainStore) do(o impl.Op) impl.Reply {
	r := impl.Reply{Seat: o.Seat, Kind: o.Kind}
	switch o.Kind {
	case opGet:
		r.Code = rpNone
		for _, pair := range m.in(o.Key, o.Key) {
			r.Code, r.Value = rpDone, pair.Value
		}
	case opPut:
		r.N = oneIf(m.has(o.Key))
		m.put(o.Key, o.Value)
	case opDelete:
		r.Code = oneIf(!m.has(o.Key))
		delete(m, string(plainKey(plainCleanKey(o.Key))))
	case opScan:
		l := m.in(o.Key, o.To)
		r.N, r.Rows = len(l), l[:min(len(l), o.N)]
	case opTotal:
		for _, pair := range m.in(o.Key, o.To) {
			if pair.Value.Kind == impl.ItFloat {
				r.N++
				r.Total += pair.Value.F
			}
		}
	}
	return r
}

// life is one transaction, as its ops and replies tell it.
type life struct {
	xid, level   int
	begun, ended int
	isDone       bool
	isAlone      bool
	wasFull      bool
	view         plainStore // what it sees: what was committed when it began, and what it did itself
	changed      map[string]impl.Item
	waits        impl.Op
	holder       int
	since        int
	acts         []impl.Op
	replies      []impl.Reply
}

// witness follows a script by its ops and replies alone. What each read has to tell it knows by plain maps.
type witness struct {
	t         *testing.T
	name      string
	left      []impl.Reply
	committed plainStore
	seats     [mostSeats]*life
	lives     []*life
	ended     []*life
	moment    int
	turns     int
	reads     int
	waits     int
}

// watch follows a whole run, whose ops are all OpOk.
func watch(t *testing.T, name string, ops []impl.Op, p impl.Play) *witness {
	t.Helper()
	w := &witness{t: t, name: name, left: p.Replies, committed: plainStore{}}
	for _, o := range ops {
		w.goesOn(o)
	}
	if len(w.left) > 0 {
		t.Fatalf("%s: %d replies to nothing", name, len(w.left))
	}
	return w
}

// goesOn takes the reply to an op, and those to who is waked by it.
func (w *witness) goesOn(o impl.Op) {
	w.t.Helper()
	w.follow(o)
	for len(w.ended) > 0 {
		over := w.ended[0]
		w.ended = w.ended[1:]
		w.wakes(over)
	}
	w.wantWaitsAreRight()
}

// take is the next reply, which has to be one to this op.
func (w *witness) take(o impl.Op) impl.Reply {
	w.t.Helper()
	if len(w.left) == 0 {
		w.t.Fatalf("%s: no reply to %v", w.name, o)
	}
	r := w.left[0]
	w.left = w.left[1:]
	if r.Seat != o.Seat || r.Kind != o.Kind {
		w.t.Fatalf("%s: the reply %q where seat %d %s should have one", w.name, wordsOf(r), o.Seat, opNames()[o.Kind])
	}
	return r
}

func (w *witness) follow(o impl.Op) {
	w.t.Helper()
	r := w.take(o)
	if o.Kind >= opVacuum {
		return
	}
	of := w.seats[o.Seat]
	isRight := true
	switch r.Code {
	case rpBusy:
		isRight = of != nil && of.holder != 0
	case rpShut:
		isRight = of == nil
	case rpOpen:
		isRight = of != nil && o.Kind == opBegin
	case rpBad:
		isRight = false
	default:
		isRight = of == nil || of.holder == 0
	}
	if !isRight {
		w.t.Fatalf("%s: the reply %q", w.name, wordsOf(r))
	}
	switch {
	case r.Code == rpBusy || r.Code == rpShut || r.Code == rpOpen:
	case o.Kind == opBegin:
		w.begins(o, r)
	default:
		w.acts(o, r)
	}
}

func (w *witness) begins(o impl.Op, r impl.Reply) {
	if r.Code != rpDone {
		return
	}
	w.moment++
	fresh := &life{xid: r.N, level: o.Level, begun: w.moment, isAlone: true, view: w.committed.clone(), changed: map[string]impl.Item{}}
	for _, other := range w.seats {
		if other != nil {
			other.isAlone, fresh.isAlone = false, false
		}
	}
	w.seats[o.Seat] = fresh
	w.lives = append(w.lives, fresh)
}

// acts is an op's own part, when it comes and when it is waked.
func (w *witness) acts(o impl.Op, r impl.Reply) {
	w.t.Helper()
	of := w.seats[o.Seat]
	switch {
	case r.Code == rpWait:
		w.turns++
		w.waits++
		of.waits, of.holder, of.since = o, r.N, w.turns
	case r.Code == rpConflict || r.Code == rpDeadlock || r.Code == rpSerial || r.Code == rpFull:
		of.wasFull = r.Code == rpFull
		if of.isAlone && !of.wasFull {
			w.t.Fatalf("%s: transaction %d is alone and told %q", w.name, of.xid, wordsOf(r))
		}
		w.ends(o.Seat, false)
	case o.Kind == opCommit || o.Kind == opAbort:
		if o.Kind == opCommit && r.N != of.xid {
			w.t.Fatalf("%s: transaction %d is told %q", w.name, of.xid, wordsOf(r))
		}
		w.ends(o.Seat, o.Kind == opCommit)
	default:
		of.acts, of.replies = append(of.acts, o), append(of.replies, r)
		if want := of.view.do(o); !sameReply(r, want) {
			w.t.Fatalf("%s: transaction %d is told %q, want %q", w.name, of.xid, wordsOf(r), wordsOf(want))
		}
		w.reads += oneIf(o.Kind != opPut && o.Kind != opDelete)
		if (o.Kind == opPut || o.Kind == opDelete) && r.Code == rpDone {
			of.changed[string(plainKey(plainCleanKey(o.Key)))] = plainCleanKey(o.Key)
		}
	}
}

func (w *witness) ends(seat int, isDone bool) {
	of := w.seats[seat]
	w.moment++
	of.ended, of.isDone = w.moment, isDone
	if isDone {
		for bytes := range of.changed {
			delete(w.committed, bytes)
			if pair, isThere := of.view[bytes]; isThere {
				w.committed[bytes] = pair
			}
		}
	}
	w.seats[seat] = nil
	w.ended = append(w.ended, of)
}

// wakes asks for a reply to each one that waited for who is over, in the order in which they came to wait.
func (w *witness) wakes(over *life) {
	w.t.Helper()
	var held []*life
	for _, of := range w.seats {
		if of != nil && of.holder == over.xid {
			held = append(held, of)
		}
	}
	slices.SortFunc(held, func(a *life, b *life) int { return cmp.Compare(a.since, b.since) })
	for _, of := range held {
		of.holder = 0
	}
	for _, of := range held {
		w.acts(of.waits, w.take(of.waits))
	}
}

// wantWaitsAreRight asks that who waits waits for one that runs and wrote its key, and that no way of waits is a ring.
func (w *witness) wantWaitsAreRight() {
	w.t.Helper()
	byXid := map[int]*life{}
	for _, of := range w.seats {
		if of != nil {
			byXid[of.xid] = of
		}
	}
	for _, of := range byXid {
		if of.holder == 0 {
			continue
		}
		holder := byXid[of.holder]
		if holder == nil {
			w.t.Fatalf("%s: transaction %d waits for %d, which ended", w.name, of.xid, of.holder)
		}
		if _, wrote := holder.changed[string(plainKey(plainCleanKey(of.waits.Key)))]; !wrote || holder == of {
			w.t.Fatalf("%s: transaction %d waits for %d, which holds nothing of it", w.name, of.xid, of.holder)
		}
		at := of
		for range mostSeats {
			if at = byXid[at.holder]; at == nil || at.holder == 0 {
				break
			}
		}
		if at != nil && at.holder != 0 {
			w.t.Fatalf("%s: transaction %d waits in a ring", w.name, of.xid)
		}
	}
}

// wantNoTwoWroteOneKey asks it of all that were committed and ran side by side.
func (w *witness) wantNoTwoWroteOneKey() {
	w.t.Helper()
	for i, a := range w.lives {
		for _, b := range w.lives[:i] {
			if !a.isDone || !b.isDone || a.begun > b.ended || b.begun > a.ended {
				continue
			}
			for bytes, key := range a.changed {
				if _, both := b.changed[bytes]; both {
					w.t.Errorf("%s: transactions %d and %d both wrote %s", w.name, a.xid, b.xid, wordOf(key))
				}
			}
		}
	}
}

// hasPlainWriter tells whether one of Level 0 that wrote was committed.
func (w *witness) hasPlainWriter() bool {
	return slices.ContainsFunc(w.lives, func(of *life) bool { return of.isDone && of.level == 0 && len(of.changed) > 0 })
}

// hasFull tells whether something was told as full.
func hasFull(p impl.Play) bool {
	return slices.Contains(codesOf(p), rpFull)
}

// wantOrder asks for an order of the deeds in which, one behind the other over one map, each gets the same replies.
func (w *witness) wantOrder(p impl.Play) {
	w.t.Helper()
	var doers []*life
	for _, of := range w.lives {
		if of.isDone && of.level == 1 {
			doers = append(doers, of)
		}
	}
	if len(doers) != len(p.Db.Deeds) {
		w.t.Fatalf("%s: %d deeds of %d", w.name, len(p.Db.Deeds), len(doers))
	}
	order, ok := impl.GraphOrder(p.Db.Deeds)
	if !ok || !plainGraphSerial(p.Db.Deeds, order) {
		w.t.Fatalf("%s: no order of %d deeds; a ring: %v", w.name, len(doers), impl.GraphRing(p.Db.Deeds))
	}
	store := plainStore{}
	for _, place := range order {
		at := slices.IndexFunc(doers, func(of *life) bool { return of.xid == p.Db.Deeds[place].Xid })
		if at < 0 {
			w.t.Fatalf("%s: a deed of nobody: %v", w.name, p.Db.Deeds[place])
		}
		for i, o := range doers[at].acts {
			if got, want := store.do(o), doers[at].replies[i]; !sameReply(got, want) {
				w.t.Fatalf("%s: in its order transaction %d would be told %q, not %q", w.name, doers[at].xid, wordsOf(got), wordsOf(want))
			}
		}
	}
}
