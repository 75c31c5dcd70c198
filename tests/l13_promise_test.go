package tests

import (
	"fmt"
	"slices"
	"testing"

	"loop.example/g00252/impl"
)

// trackHistory keeps every read of every track, and every track that was not given up, however long ago it ended.
type trackHistory struct {
	l []impl.Track
}

func (h *trackHistory) at(xid int) *impl.Track {
	return &h.l[slices.IndexFunc(h.l, func(t impl.Track) bool { return t.Xid == xid })]
}

func (h *trackHistory) begin(xid int, now int) {
	h.l = append(h.l, active(xid, now))
}

func (h *trackHistory) read(xid int, s impl.Span) {
	reader := h.at(xid)
	reader.Reads = append(reader.Reads, s)
	for i := range h.l {
		if other := &h.l[i]; other.Xid != xid && plainConcurrent(*reader, *other) && plainTrackWrites(*other, s) {
			reader.Out, other.In = true, true
		}
	}
}

func (h *trackHistory) write(xid int, key impl.Item) {
	writer := h.at(xid)
	writer.Writes = append(writer.Writes, key)
	for i := range h.l {
		if other := &h.l[i]; other.Xid != xid && plainConcurrent(*writer, *other) && plainTrackReads(*other, key) {
			writer.In, other.Out = true, true
		}
	}
}

func (h *trackHistory) end(xid int, now int, done bool) {
	if done {
		h.at(xid).Ended = now
		return
	}
	h.l = slices.DeleteFunc(h.l, func(t impl.Track) bool { return t.Xid == xid })
}

// wantCovers fails where a track lacks a mark, or a read, that it has if every read is kept, or where it is not the same one.
func (h *trackHistory) wantCovers(t *testing.T, name string, l []impl.Track, exactly bool) {
	t.Helper()
	for _, got := range l {
		want := *h.at(got.Xid)
		if got.Begun != want.Begun || got.Ended != want.Ended {
			t.Fatalf("%s: %d is not the same track: %v, %v", name, got.Xid, got, want)
		}
		if want.In && !got.In || want.Out && !got.Out {
			t.Fatalf("%s: %d lacks a mark: %v, %v", name, got.Xid, got, want)
		}
		if exactly && (want.In != got.In || want.Out != got.Out) {
			t.Fatalf("%s: %d has a mark too many: %v, %v", name, got.Xid, got, want)
		}
		for _, key := range edgeKeys() {
			if plainTrackReads(want, key) && !impl.TrackReads(got, key) {
				t.Fatalf("%s: a read of %v by %d is missed", name, key, got.Xid)
			}
		}
	}
	wantTracksOk(t, name, l, true)
}

// edgeCount is how often what came over all scripts.
type edgeCount struct {
	touches int
	coarse  int
	more    int
	dangers int
	ends    int
	refused int
}

// trackScript is a run of begins, reads, writes and ends, over the program and over a history of all.
type trackScript struct {
	l     []impl.Track
	h     trackHistory
	now   int
	next  int
	most  int
	count *edgeCount
}

func (s *trackScript) xids() []int {
	var l []int
	for _, track := range s.l {
		if track.Ended == 0 {
			l = append(l, track.Xid)
		}
	}
	return l
}

// take puts an answer in the place of the list, where it is what the document says.
func (s *trackScript) take(t *testing.T, name string, got []impl.Track, code int, want []impl.Track, wantCode int) {
	t.Helper()
	wantTracks(t, name, got, code, want, wantCode)
	if t.Failed() || code == edgeBad {
		t.Fatalf("%s: code %d at %v", name, code, s.l)
	}
	s.l = got
}

func (s *trackScript) begin(t *testing.T) {
	s.next++
	got, code := impl.EdgeBegin(s.l, s.next, s.now)
	want, wantCode := plainBegin(s.l, s.next, s.now)
	s.take(t, "begin", got, code, want, wantCode)
	s.h.begin(s.next, s.now)
}

func (s *trackScript) read(t *testing.T, xid int, span impl.Span) {
	got, code := impl.EdgeRead(s.l, xid, span)
	want, wantCode := plainReadOf(s.l, xid, span, mostReads)
	s.take(t, "read", got, code, want, wantCode)
	s.h.read(xid, span)
	s.count.touches++
	s.count.dangers += oneIf(code == edgeDanger)
}

func (s *trackScript) write(t *testing.T, xid int, key impl.Item) {
	got, code := impl.EdgeWrite(s.l, xid, key)
	want, wantCode := plainWriteOf(s.l, xid, key, mostReads)
	s.take(t, "write", got, code, want, wantCode)
	s.h.write(xid, key)
	s.count.touches++
	s.count.dangers += oneIf(code == edgeDanger)
}

// end gives up whom a danger is told of: so the same are active and ended by the history.
func (s *trackScript) end(t *testing.T, xid int, done bool) {
	own := s.l[plainActive(s.l, xid)]
	full := *s.h.at(xid)
	got, code := impl.EdgeEnd(s.l, xid, s.now, done)
	if done && full.In && full.Out && code != edgeDanger {
		t.Fatalf("%d has both marks by all its reads, and no danger is told: %v", xid, s.l)
	}
	if isDanger := done && own.In && own.Out; (code == edgeDanger) != isDanger {
		t.Fatalf("the end of %v: code %d", own, code)
	}
	want, wantCode := plainEndOf(s.l, xid, s.now, done, mostReads)
	s.take(t, "end", got, code, want, wantCode)
	if code == edgeDanger {
		s.count.refused++
		s.end(t, xid, false)
		return
	}
	s.count.ends++
	s.h.end(xid, s.now, done)
}

// step does one of all things; a begin and an end have a moment of their own.
func (s *trackScript) step(t *testing.T, x uint64) {
	xids := s.xids()
	if len(xids) == 0 || len(xids) < s.most && x%10 == 0 && len(s.l) < mostTracks && s.next < lastXid {
		s.now++
		s.begin(t)
		return
	}
	xid := xids[x>>10%uint64(len(xids))]
	switch spans, keys := edgeSpans(), edgeKeys(); x % 10 {
	case 1:
		s.now++
		s.end(t, xid, x>>20%4 != 0)
	case 2, 3, 4:
		s.write(t, xid, keys[x>>30%uint64(len(keys))])
	default:
		s.read(t, xid, spans[x>>30%uint64(len(spans))])
	}
}

// wantAll holds the list against the history, exactly as long as no track had to set All.
func (s *trackScript) wantAll(t *testing.T, name string, exactly bool) {
	t.Helper()
	s.h.wantCovers(t, name, s.l, exactly)
	for _, track := range s.l {
		full := *s.h.at(track.Xid)
		s.count.coarse += oneIf(track.All)
		s.count.more += oneIf(track.In && !full.In || track.Out && !full.Out)
	}
	for _, a := range s.l {
		for _, b := range s.l {
			wantConcurrent(t, name, a, b, plainConcurrent(a, b))
		}
	}
}

func runTracks(t *testing.T, seed uint64, steps int, most int, count *edgeCount) {
	s := trackScript{most: most, count: count}
	exactly := true
	for i, x := range someBits(steps, seed) {
		s.step(t, x>>3)
		exactly = exactly && !slices.ContainsFunc(s.l, func(t impl.Track) bool { return t.All })
		s.wantAll(t, fmt.Sprintf("script %d, step %d", seed, i), exactly)
	}
}

func TestCoarseReadsMissNoEdge(t *testing.T) {
	var count edgeCount
	for seed := range uint64(120) {
		runTracks(t, seed+40, 150, 2+int(seed%9), &count)
	}
	if count.touches < 5000 || count.coarse < 2000 || count.more < 200 || count.dangers < 500 || count.ends < 500 || count.refused < 100 {
		t.Errorf("not much was asked: %+v", count)
	}
}

// Short scripts seldom set All: then the marks are just those of the history.
func TestMarksAreThoseOfAllReads(t *testing.T) {
	var count edgeCount
	for seed := range uint64(600) {
		runTracks(t, seed+9000, 25, 2+int(seed%4), &count)
	}
	if count.touches < 5000 || count.dangers < 300 || count.ends < 500 {
		t.Errorf("not much was asked: %+v", count)
	}
}

// One that reads far too much, and one that writes what it read: the edge is there, whichever of the spans had the key.
func TestEachReadOfManyIsMet(t *testing.T) {
	for n := 1; n <= 3*mostReads; n++ {
		for hit := range n {
			l, _ := impl.EdgeBegin(nil, 1, 1)
			l, _ = impl.EdgeBegin(l, 2, 2)
			for i := range n {
				l, _ = impl.EdgeRead(l, 1, spanOf(10*i, 10*i+5))
			}
			after, code := impl.EdgeWrite(l, 2, intItem(10*hit+3))
			if code != edgeWell || !after[0].Out || !after[1].In || after[0].In || after[1].Out {
				t.Fatalf("%d spans, the key in span %d: code %d, %v", n, hit, code, after)
			}
			between, _ := impl.EdgeWrite(l, 2, intItem(10*hit+7))
			if between[0].Out != (n > mostReads) {
				t.Fatalf("%d spans, a key between them: %v", n, between)
			}
		}
	}
}

// Who is told a danger gives up by the list as it was ahead of it: then nobody that ended ever has both marks.
func TestNobodyThatEndedHasBothMarksWhereDangersAreMinded(t *testing.T) {
	dangers, done := 0, 0
	spans, keys := edgeSpans(), edgeKeys()
	for seed := range uint64(80) {
		var l []impl.Track
		next := 0
		for i, x := range someBits(120, seed+333) {
			now := i + 1
			if len(l) < 6 && x%8 == 0 || len(l) == 0 {
				next++
				l, _ = impl.EdgeBegin(l, next, now)
				continue
			}
			xid := l[x>>10%uint64(len(l))].Xid
			after, code := impl.EdgeRead(l, xid, spans[x>>30%uint64(len(spans))])
			switch x % 8 {
			case 1, 2:
				after, code = impl.EdgeWrite(l, xid, keys[x>>30%uint64(len(keys))])
			case 3:
				after, code = impl.EdgeEnd(l, xid, now, true)
				done += oneIf(code == edgeWell)
			}
			switch code {
			case edgeWell:
				l = after
			case edgeDanger:
				dangers++
				l, _ = impl.EdgeEnd(l, xid, now, false)
			}
			for _, track := range l {
				if track.Ended != 0 && track.In && track.Out {
					t.Fatalf("script %d, step %d: %v ended with both marks", seed, i, track)
				}
			}
		}
	}
	if dangers < 200 || done < 200 {
		t.Errorf("not much was asked: %d dangers, %d done", dangers, done)
	}
}

// Two that each read what the other one writes: whoever is second, in whichever order, one of both is told.
func TestSkewOfTwoIsTold(t *testing.T) {
	type act struct {
		xid   int
		write bool
	}
	for _, order := range [][]act{
		{{1, false}, {2, false}, {1, true}, {2, true}}, {{1, false}, {2, false}, {2, true}, {1, true}},
		{{1, false}, {1, true}, {2, false}, {2, true}}, {{1, true}, {1, false}, {2, false}, {2, true}},
		{{1, true}, {2, true}, {1, false}, {2, false}}, {{2, true}, {1, true}, {1, false}, {2, false}},
		{{1, true}, {2, false}, {1, false}, {2, true}}, {{2, true}, {2, false}, {1, true}, {1, false}},
	} {
		l := tracksOf(active(1, 1), active(2, 2))
		code := edgeWell
		for i, a := range order {
			if code != edgeWell {
				t.Fatalf("%v: code %d ahead of act %d", order, code, i)
			}
			if a.write {
				l, code = impl.EdgeWrite(l, a.xid, intItem(3-a.xid))
			} else {
				l, code = impl.EdgeRead(l, a.xid, spanOf(a.xid, a.xid))
			}
		}
		if code != edgeDanger || !l[0].In || !l[0].Out || !l[1].In || !l[1].Out {
			t.Errorf("%v: code %d, %v", order, code, l)
		}
		wantEdgeEnd(t, "each of both", l, 1, 9, true, l, edgeDanger)
		wantEdgeEnd(t, "each of both", l, 2, 9, true, l, edgeDanger)
	}
}
