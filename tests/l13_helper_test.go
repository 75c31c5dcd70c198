package tests

import (
	"bytes"
	"math"
	"slices"
	"testing"

	"loop.example/g00252/impl"
)

// Chapter 13's limits and codes as the document names them, in numbers.
const (
	mostTracks = 64
	mostReads  = 6
	mostKeys   = 200

	edgeWell   = 0
	edgeBad    = 1
	edgeDanger = 2
)

func spanOf(from int, to int) impl.Span {
	return impl.Span{From: intItem(from), To: intItem(to)}
}

func textSpan(from string, to string) impl.Span {
	return impl.Span{From: textItem(from), To: textItem(to)}
}

// spansOf are spans of one whole number each.
func spansOf(numbers ...int) []impl.Span {
	var l []impl.Span
	for _, n := range numbers {
		l = append(l, spanOf(n, n))
	}
	return l
}

func intItems(numbers ...int) []impl.Item {
	var l []impl.Item
	for _, n := range numbers {
		l = append(l, intItem(n))
	}
	return l
}

// active is a track that did not end yet.
func active(xid int, begun int) impl.Track {
	return impl.Track{Xid: xid, Begun: begun}
}

func ended(xid int, begun int, end int) impl.Track {
	return impl.Track{Xid: xid, Begun: begun, Ended: end}
}

// withReads is the track with spans of one whole number each.
func withReads(t impl.Track, numbers ...int) impl.Track {
	t.Reads = spansOf(numbers...)
	return t
}

func withSpans(t impl.Track, spans ...impl.Span) impl.Track {
	t.Reads = spans
	return t
}

func withWrites(t impl.Track, numbers ...int) impl.Track {
	t.Writes = intItems(numbers...)
	return t
}

func withKeys(t impl.Track, keys ...impl.Item) impl.Track {
	t.Writes = keys
	return t
}

func withAll(t impl.Track) impl.Track {
	t.All, t.Reads = true, nil
	return t
}

func withMarks(t impl.Track, in bool, out bool) impl.Track {
	t.In, t.Out = in, out
	return t
}

func withXid(t impl.Track, xid int) impl.Track {
	t.Xid = xid
	return t
}

func tracksOf(tracks ...impl.Track) []impl.Track {
	return cloneTracks(tracks)
}

// actives are n active tracks, the first of Xid 1, each of which began behind the one ahead of it.
func actives(n int) []impl.Track {
	var l []impl.Track
	for xid := 1; xid <= n; xid++ {
		l = append(l, active(xid, 10*xid))
	}
	return l
}

func cloneItem(a impl.Item) impl.Item {
	a.T = bytes.Clone(a.T)
	return a
}

func cloneTracks(l []impl.Track) []impl.Track {
	var c []impl.Track
	for _, t := range l {
		reads, writes := t.Reads, t.Writes
		t.Reads, t.Writes = nil, nil
		for _, s := range reads {
			t.Reads = append(t.Reads, impl.Span{From: cloneItem(s.From), To: cloneItem(s.To)})
		}
		for _, key := range writes {
			t.Writes = append(t.Writes, cloneItem(key))
		}
		t.Reads, t.Writes = slices.Clip(t.Reads), slices.Clip(t.Writes)
		c = append(c, t)
	}
	return slices.Clip(c)
}

// changedTracks is a copy with one thing done to it.
func changedTracks(l []impl.Track, change func(l []impl.Track)) []impl.Track {
	c := cloneTracks(l)
	change(c)
	return c
}

func sameSpan(a impl.Span, b impl.Span) bool {
	return sameItem(a.From, b.From) && sameItem(a.To, b.To)
}

func sameTrack(a impl.Track, b impl.Track) bool {
	return a.Xid == b.Xid && a.Begun == b.Begun && a.Ended == b.Ended && a.All == b.All && a.In == b.In && a.Out == b.Out &&
		slices.EqualFunc(a.Reads, b.Reads, sameSpan) && slices.EqualFunc(a.Writes, b.Writes, sameItem)
}

func sameTracks(a []impl.Track, b []impl.Track) bool {
	return slices.EqualFunc(a, b, sameTrack)
}

// plainIn goes by the bytes of the keys, which compare as the keys do.
func plainIn(s impl.Span, key impl.Item) bool {
	return impl.KeyOk(s.From) && impl.KeyOk(s.To) && impl.KeyOk(key) &&
		bytes.Compare(plainKey(s.From), plainKey(key)) <= 0 && bytes.Compare(plainKey(key), plainKey(s.To)) <= 0
}

func plainSpanOk(s impl.Span) bool {
	return impl.KeyOk(s.From) && impl.KeyOk(s.To) && bytes.Compare(plainKey(s.From), plainKey(s.To)) <= 0
}

func plainTrackReads(t impl.Track, key impl.Item) bool {
	if !impl.KeyOk(key) {
		return false
	}
	return t.All || slices.ContainsFunc(t.Reads, func(s impl.Span) bool { return plainIn(s, key) })
}

func plainTrackWrites(t impl.Track, s impl.Span) bool {
	return slices.ContainsFunc(t.Writes, func(key impl.Item) bool { return plainIn(s, key) })
}

func plainTrackOk(t impl.Track, most int) bool {
	if t.Xid < 1 || t.Xid > lastXid || t.Begun < 1 || t.Ended != 0 && t.Ended <= t.Begun {
		return false
	}
	if len(t.Reads) > most || len(t.Writes) > mostKeys || t.All && len(t.Reads) > 0 {
		return false
	}
	return !slices.ContainsFunc(t.Reads, func(s impl.Span) bool { return !plainSpanOk(s) }) &&
		!slices.ContainsFunc(t.Writes, func(key impl.Item) bool { return !impl.KeyOk(key) })
}

// plainTracksOk is what the document says of TracksOk, word by word; most is how many Reads there may be.
func plainTracksOk(l []impl.Track, most int) bool {
	if len(l) > mostTracks {
		return false
	}
	for i, t := range l {
		if !plainTrackOk(t, most) || slices.ContainsFunc(l[:i], func(other impl.Track) bool { return other.Xid == t.Xid }) {
			return false
		}
	}
	return true
}

func plainConcurrent(a impl.Track, b impl.Track) bool {
	aEndedAhead := a.Ended != 0 && a.Ended <= b.Begun
	bEndedAhead := b.Ended != 0 && b.Ended <= a.Begun
	return !aEndedAhead && !bEndedAhead
}

func plainActive(l []impl.Track, xid int) int {
	return slices.IndexFunc(l, func(t impl.Track) bool { return t.Xid == xid && t.Ended == 0 })
}

func plainBegin(l []impl.Track, xid int, now int) ([]impl.Track, int) {
	after := append(cloneTracks(l), active(xid, now))
	if !plainTracksOk(l, mostReads) || !plainTracksOk(after, mostReads) {
		return nil, edgeBad
	}
	return after, edgeWell
}

// plainEdges marks the track at one place and those others that it meets, and tells whether that is a danger.
func plainEdges(l []impl.Track, at int, isRead bool, meets func(other impl.Track) bool) int {
	code := edgeWell
	for i := range l {
		if i == at || !plainConcurrent(l[i], l[at]) || !meets(l[i]) {
			continue
		}
		reader, writer := i, at
		if isRead {
			reader, writer = at, i
		}
		l[writer].In = true
		l[reader].Out = true
		if l[i].Ended != 0 && l[i].In && l[i].Out {
			code = edgeDanger
		}
	}
	if l[at].In && l[at].Out {
		code = edgeDanger
	}
	return code
}

// plainReadOf reads by a track of which most Reads are kept one by one.
func plainReadOf(l []impl.Track, xid int, s impl.Span, most int) ([]impl.Track, int) {
	at := plainActive(l, xid)
	if !plainTracksOk(l, most) || at < 0 || !plainSpanOk(s) {
		return nil, edgeBad
	}
	after := cloneTracks(l)
	switch {
	case after[at].All:
	case len(after[at].Reads) >= most:
		after[at].All = true
		after[at].Reads = nil
	default:
		after[at].Reads = append(after[at].Reads, s)
	}
	code := plainEdges(after, at, true, func(other impl.Track) bool { return plainTrackWrites(other, s) })
	return cloneTracks(after), code
}

func plainWriteOf(l []impl.Track, xid int, key impl.Item, most int) ([]impl.Track, int) {
	at := plainActive(l, xid)
	if !plainTracksOk(l, most) || at < 0 || !impl.KeyOk(key) {
		return nil, edgeBad
	}
	after := cloneTracks(l)
	isThere := slices.ContainsFunc(after[at].Writes, func(other impl.Item) bool { return bytes.Equal(plainKey(other), plainKey(key)) })
	if !isThere && len(after[at].Writes) >= mostKeys {
		return nil, edgeBad
	}
	if !isThere {
		after[at].Writes = append(after[at].Writes, key)
	}
	code := plainEdges(after, at, false, func(other impl.Track) bool { return plainTrackReads(other, key) })
	return cloneTracks(after), code
}

// plainTidy leaves the active ones, and those that ended above the Begun of one of these.
func plainTidy(l []impl.Track) []impl.Track {
	var left []impl.Track
	for _, t := range l {
		stays := t.Ended == 0
		for _, other := range l {
			stays = stays || other.Ended == 0 && t.Ended > other.Begun
		}
		if stays {
			left = append(left, t)
		}
	}
	return left
}

func plainEndOf(l []impl.Track, xid int, now int, done bool, most int) ([]impl.Track, int) {
	at := plainActive(l, xid)
	if !plainTracksOk(l, most) || at < 0 || now <= l[at].Begun {
		return nil, edgeBad
	}
	after := cloneTracks(l)
	if done && after[at].In && after[at].Out {
		return after, edgeDanger
	}
	if done {
		after[at].Ended = now
	} else {
		after = append(slices.Clone(after[:at]), after[at+1:]...)
	}
	return plainTidy(after), edgeWell
}

// namedTracks is a list of tracks of a test's table.
type namedTracks struct {
	name string
	l    []impl.Track
}

// rightTracks are lists that are TracksOk, at the chapter's limits too.
func rightTracks() []namedTracks {
	l := []namedTracks{
		{"no list", nil},
		{"an empty list", []impl.Track{}},
		{"one", actives(1)},
		{"one with Xid MaxXid", tracksOf(active(lastXid, 1))},
		{"one that began last of all", tracksOf(active(1, math.MaxInt))},
		{"one that ended at once", tracksOf(ended(1, 1, 2))},
		{"one that ended last of all", tracksOf(ended(1, math.MaxInt-1, math.MaxInt))},
		{"falling Xids", tracksOf(active(9, 1), active(7, 2), active(1, 3))},
		{"all begun at once", tracksOf(active(1, 5), active(2, 5), ended(3, 5, 6), ended(4, 5, 6))},
		{"falling Begun", tracksOf(active(1, 30), ended(2, 20, 25), active(3, 10))},
		{"MaxReads Reads", tracksOf(withReads(active(1, 1), upTo(1, mostReads)...))},
		{"one span MaxReads times", tracksOf(withReads(active(1, 1), sameOf(mostReads, 3)...))},
		{"spans that overlap", tracksOf(withSpans(active(1, 1), spanOf(1, 9), spanOf(5, 20), spanOf(-3, 30)))},
		{"a span over kinds", tracksOf(withSpans(active(1, 1), impl.Span{From: intItem(5), To: textItem("a")}))},
		{"a span of NaN", tracksOf(withSpans(active(1, 1), impl.Span{From: floatItem(plainNaN()), To: floatItem(plainNaN())}))},
		{"All and no Reads", tracksOf(withAll(active(1, 1)), withAll(ended(2, 1, 3)))},
		{"All and an empty list", tracksOf(impl.Track{Xid: 1, Begun: 1, All: true, Reads: []impl.Span{}})},
		{"MaxKeys Writes", tracksOf(withWrites(active(1, 1), upTo(1, mostKeys)...))},
		{"one key MaxKeys times", tracksOf(withWrites(active(1, 1), sameOf(mostKeys, 3)...))},
		{"keys of all kinds", tracksOf(withKeys(active(1, 1), someKeys()...))},
		{"MaxTracks", actives(mostTracks)},
	}
	for _, in := range []bool{false, true} {
		for _, out := range []bool{false, true} {
			l = append(l, namedTracks{"marks", tracksOf(withMarks(active(1, 1), in, out), withMarks(ended(2, 1, 5), in, out), withMarks(withAll(active(3, 4)), out, in))})
		}
	}
	return l
}

// wrongTracks are lists each of which is not TracksOk for one reason alone.
func wrongTracks() []namedTracks {
	with := func(change func(l []impl.Track)) []impl.Track {
		return changedTracks(tracksOf(withReads(active(1, 10), 1, 2), withWrites(ended(2, 20, 25), 3, 4), withAll(active(3, 30))), change)
	}
	l := []namedTracks{
		{"one more than MaxTracks", actives(mostTracks + 1)},
		{"many more than MaxTracks", actives(lastXid)},
		{"more than there are Xids", actives(2 * lastXid)},
		{"two alike next to each other", tracksOf(active(1, 1), active(2, 1), active(2, 1))},
		{"two alike, first and last", tracksOf(active(1, 1), active(2, 1), active(1, 1))},
		{"two alike, one of which ended", tracksOf(ended(1, 1, 2), active(1, 3))},
		{"All with Reads", with(func(l []impl.Track) { l[2].Reads = spansOf(1) })},
		{"All with a wrong span", with(func(l []impl.Track) { l[2].Reads = []impl.Span{{}} })},
		{"one more than MaxReads", with(func(l []impl.Track) { l[0].Reads = spansOf(upTo(1, mostReads+1)...) })},
		{"many Reads", with(func(l []impl.Track) { l[0].Reads = spansOf(upTo(1, 300)...) })},
		{"one more than MaxKeys", with(func(l []impl.Track) { l[1].Writes = intItems(upTo(1, mostKeys+1)...) })},
		{"one key too often", with(func(l []impl.Track) { l[1].Writes = intItems(sameOf(mostKeys+1, 1)...) })},
		{"a zero track", with(func(l []impl.Track) { l[2] = impl.Track{} })},
	}
	for _, xid := range []int{math.MinInt, -1, 0, lastXid + 1, lastXid + 2, 1<<32 + 1, math.MaxInt} {
		l = append(l, namedTracks{"an Xid", with(func(l []impl.Track) { l[0].Xid = xid })}, namedTracks{"the last Xid", with(func(l []impl.Track) { l[2].Xid = xid })})
	}
	for _, begun := range []int{math.MinInt, -1, 0} {
		l = append(l, namedTracks{"a Begun", with(func(l []impl.Track) { l[0].Begun = begun })}, namedTracks{"the Begun of one that ended", with(func(l []impl.Track) { l[1].Begun = begun })})
	}
	for _, end := range []int{math.MinInt, -20, -1, 1, 19, 20} {
		l = append(l, namedTracks{"an Ended", with(func(l []impl.Track) { l[1].Ended = end })})
	}
	for i, key := range noKeys() {
		if i%5 == 0 || i > len(noKeys())-4 {
			l = append(l,
				namedTracks{"a wrong From", with(func(l []impl.Track) { l[0].Reads[0].From = key })},
				namedTracks{"a wrong To", with(func(l []impl.Track) { l[0].Reads[1].To = key })},
				namedTracks{"a wrong key", with(func(l []impl.Track) { l[1].Writes[1] = key })})
		}
	}
	return append(l, namedTracks{"From behind To", with(func(l []impl.Track) { l[0].Reads[1] = spanOf(3, 2) })})
}

// edgeSpans are few spans, of which many overlap and some reach over kinds.
func edgeSpans() []impl.Span {
	return []impl.Span{
		spanOf(0, 0), spanOf(1, 1), spanOf(0, 1), spanOf(2, 4), spanOf(4, 4),
		{From: intItem(1), To: floatItem(0)}, {From: floatItem(0), To: floatItem(plainNaN())}, textSpan("", ""), textSpan("", "2"), {From: intItem(0), To: textItem("")},
	}
}

// edgeKeys are few keys, each in some of edgeSpans.
func edgeKeys() []impl.Item {
	return append(fewKeys(), intItem(2), intItem(3), intItem(4), intItem(9))
}

// someTracks is a list that is TracksOk; the seed fixes it.
func someTracks(seed uint64) []impl.Track {
	var l []impl.Track
	spans, keys := edgeSpans(), edgeKeys()
	for i, x := range someBits(2+int(seed%7), seed) {
		t := withMarks(active(1+i*3%50, 1+int(x>>5%8)), x>>10%3 == 0, x>>20%3 == 0)
		if x>>30%2 == 0 {
			t.Ended = t.Begun + 1 + int(x>>33%6)
		}
		t.All = x>>40%5 == 0
		for _, y := range someBits(int(x>>43%(mostReads+1)), x) {
			if !t.All {
				t.Reads = append(t.Reads, spans[y>>20%uint64(len(spans))])
			}
			t.Writes = append(t.Writes, keys[y>>40%uint64(len(keys))])
		}
		l = append(l, t)
	}
	return cloneTracks(l)
}

func wantSpanOk(t *testing.T, name string, s impl.Span, want bool) {
	t.Helper()
	if got := impl.SpanOk(s); got != want {
		t.Errorf("%s: SpanOk of %v is %v", name, s, got)
	}
}

func wantReads(t *testing.T, name string, track impl.Track, key impl.Item, want bool) {
	t.Helper()
	if got := impl.TrackReads(track, key); got != want {
		t.Errorf("%s: TrackReads of %v, %v is %v", name, track, key, got)
	}
}

func wantTracksOk(t *testing.T, name string, l []impl.Track, want bool) {
	t.Helper()
	if got := impl.TracksOk(l); got != want {
		t.Errorf("%s: TracksOk of %v is %v", name, l, got)
	}
}

// wantConcurrent asks both ways round.
func wantConcurrent(t *testing.T, name string, a impl.Track, b impl.Track, want bool) {
	t.Helper()
	if got := impl.Concurrent(a, b); got != want {
		t.Errorf("%s: Concurrent of %v, %v is %v", name, a, b, got)
	}
	if got := impl.Concurrent(b, a); got != want {
		t.Errorf("%s: Concurrent of %v, %v is %v", name, b, a, got)
	}
}

// wantTracks holds what a call answered against what it should; nothing beside edgeBad.
func wantTracks(t *testing.T, name string, got []impl.Track, code int, want []impl.Track, wantCode int) {
	t.Helper()
	if code != wantCode {
		t.Errorf("%s: the code is %d, want %d", name, code, wantCode)
	}
	if !sameTracks(got, want) {
		t.Errorf("%s: %v, want %v", name, got, want)
	}
}

func wantBegin(t *testing.T, name string, l []impl.Track, xid int, now int, want []impl.Track, wantCode int) {
	t.Helper()
	got, code := impl.EdgeBegin(l, xid, now)
	wantTracks(t, name, got, code, want, wantCode)
}

func wantEdgeRead(t *testing.T, name string, l []impl.Track, xid int, s impl.Span, want []impl.Track, wantCode int) {
	t.Helper()
	got, code := impl.EdgeRead(l, xid, s)
	wantTracks(t, name, got, code, want, wantCode)
}

func wantEdgeWrite(t *testing.T, name string, l []impl.Track, xid int, key impl.Item, want []impl.Track, wantCode int) {
	t.Helper()
	got, code := impl.EdgeWrite(l, xid, key)
	wantTracks(t, name, got, code, want, wantCode)
}

func wantEdgeEnd(t *testing.T, name string, l []impl.Track, xid int, now int, done bool, want []impl.Track, wantCode int) {
	t.Helper()
	got, code := impl.EdgeEnd(l, xid, now, done)
	wantTracks(t, name, got, code, want, wantCode)
}
