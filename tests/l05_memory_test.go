package tests

import (
	"bytes"
	"math"
	"testing"

	"loop.example/g00252/impl"
)

// guardedLog is a log with marked room behind its records and behind the Data of each.
type guardedLog struct {
	l    []impl.Record
	want []impl.Record
	data []guarded
}

func guardLog(l []impl.Record) *guardedLog {
	g := &guardedLog{}
	all := append(cloneLog(l), commitRecord(900, 9), impl.Record{Kind: 77, Data: []byte{spareMark}})
	for i := range all {
		of := guard(all[i].Data)
		g.data = append(g.data, of)
		all[i].Data = of.b
	}
	g.l, g.want = all[:len(l)], cloneLog(all)
	return g
}

// check fails when the records, their Data or the room behind one are not as they were.
func (g *guardedLog) check(t *testing.T, name string) {
	t.Helper()
	if !sameLog(g.l[:len(g.want)], g.want) {
		t.Errorf("%s: wrote into its records or behind them", name)
	}
	for _, d := range g.data {
		d.check(t, name)
	}
}

func (g *guardedLog) spoil() {
	for _, d := range g.data {
		spoil(d.b)
	}
	clear(g.l)
}

// memoryLogs are logs that LogBytes takes, and some that it refuses.
func memoryLogs() [][]impl.Record {
	bad := someLog(6, 1)
	bad[3].Kind = 9
	return [][]impl.Record{nil, someLog(1, 1), someLog(12, 1), fullLog(1), bad, append(fullLog(1), commitRecord(240, 1))}
}

func TestLogBytesIsNewMemory(t *testing.T) {
	for _, l := range memoryLogs() {
		g := guardLog(l)
		b, ok := impl.LogBytes(g.l)
		g.check(t, "LogBytes")
		want := bytes.Clone(b)
		spoil(b)
		g.check(t, "LogBytes, its answer spoilt")
		again, okAgain := impl.LogBytes(g.l)
		g.spoil()
		if !bytes.Equal(again, want) || ok != okAgain {
			t.Errorf("LogBytes of %d records shares memory with its argument or with another answer", len(l))
		}
	}
}

func TestRecordBytesIsNewMemory(t *testing.T) {
	records := append(oneRecordOfEach(), putRecord(1, 1, 1, 1, 92), impl.Record{Kind: 2, Lsn: 1, Data: make([]byte, 50)})
	for _, r := range records {
		g := guardLog([]impl.Record{r})
		b := impl.RecordBytes(g.l[0])
		impl.RecordOk(g.l[0])
		g.check(t, "RecordBytes")
		want := bytes.Clone(b)
		spoil(b)
		g.check(t, "RecordBytes, its answer spoilt")
		again := impl.RecordBytes(g.l[0])
		g.spoil()
		if !bytes.Equal(again, want) {
			t.Errorf("RecordBytes of kind %d shares memory with its argument or with another answer", r.Kind)
		}
	}
}

func TestRecordAtIsNewMemory(t *testing.T) {
	for _, r := range oneRecordOfEach() {
		g := guard(join([]byte{1, 2, 3}, plainRecord(r), []byte{4}))
		got, _, _ := impl.RecordAt(g.b, 3)
		g.check(t, "RecordAt")
		spoil(g.b)
		if !sameRecord(got, r) {
			t.Errorf("RecordAt of kind %d shares memory with its argument", r.Kind)
		}
		spoil(g.b)
		spoil(got.Data)
		g.check(t, "RecordAt, its answer spoilt")
		wantRecord(t, "again", g.b, 3, r, 3+19+len(r.Data))
	}
}

// wantRecordsApart writes other bytes into each Data and the room behind it, and looks whether one wrote over another.
func wantRecordsApart(t *testing.T, name string, l []impl.Record) {
	t.Helper()
	for i, r := range l {
		room := r.Data[:cap(r.Data)]
		copy(room, someBytes(len(room), uint64(i)*13+3))
	}
	for i, r := range l {
		room := r.Data[:cap(r.Data)]
		if !bytes.Equal(room, someBytes(len(room), uint64(i)*13+3)) {
			t.Errorf("%s: two Data of the answer share memory", name)
			return
		}
	}
}

func TestLogScanIsNewMemory(t *testing.T) {
	for _, l := range [][]impl.Record{nil, someLog(1, 1), someLog(20, 1), fullLog(1)} {
		g := guard(plainLog(l))
		got, at := impl.LogScan(g.b, 1)
		g.check(t, "LogScan")
		if !sameLog(got, l) || at != len(g.b) {
			t.Fatalf("LogScan of %d records has %d", len(l), len(got))
		}
		wantRecordsApart(t, "LogScan", got)
		clear(got[:cap(got)])
		g.check(t, "LogScan, its answer spoilt")
		again, _ := impl.LogScan(g.b, 1)
		spoil(g.b)
		if !sameLog(again, l) {
			t.Errorf("LogScan of %d records shares memory with its argument or with another answer", len(l))
		}
	}
}

func TestRefusalsLeaveTheirArguments(t *testing.T) {
	b := plainLog(someLog(4, 1))
	for _, at := range []int{-1, 0, 1, 5, len(b) - 1, len(b), len(b) + 1, math.MaxInt} {
		g := guard(b)
		impl.RecordAt(g.b, at)
		impl.LogScan(g.b, at)
		g.check(t, "RecordAt and LogScan")
	}
	for cut := range len(b) {
		g := guard(b[:cut])
		impl.LogScan(g.b, 1)
		g.check(t, "LogScan of a log that is cut")
	}
	g := guard(make([]byte, impl.MaxBytes+1))
	impl.LogScan(g.b, 1)
	impl.RecordAt(g.b, 0)
	g.check(t, "too many bytes")
}

func TestLogBytesOfRecordsOnOneList(t *testing.T) {
	one := someBytes(40, 46)
	var l []impl.Record
	for i := range 5 {
		l = append(l, impl.Record{Kind: 2, Lsn: 1 + i, Xid: 1, Page: 2, Slot: i, Data: one[i : i+30]})
	}
	want := cloneLog(l)
	b, ok := impl.LogBytes(l)
	if !ok || !sameLog(l, want) {
		t.Error("LogBytes of records on one list")
	}
	wantScan(t, "records on one list", b, 1, want, len(b))
}

func TestRecordsNeverPanic(t *testing.T) {
	numbers := []int{math.MinInt, math.MinInt + 1, -65536, -19, -1, 0, 1, 2, 19, 400, 401, 65535, 65536, 1000000, 1000001, math.MaxInt - 19, math.MaxInt - 1, math.MaxInt}
	lists := [][]byte{nil, {}, {0}, {5}, {5, 12, 0}, {255, 255, 255}, plainFrame(5, nil), plainFrame(2, make([]byte, 11)), make1000(2), plainFrame(1, make([]byte, 1000)),
		plainLog(someLog(5, 1)), plainLog(fullLog(1)), make([]byte, impl.MaxBytes), make([]byte, impl.MaxBytes+1), bytes.Repeat([]byte{255}, 200000)}
	for _, b := range lists {
		for _, n := range numbers {
			quiet(t, "RecordAt", func() { impl.RecordAt(b, n) })
			quiet(t, "LogScan", func() { impl.LogScan(b, n) })
			for _, r := range []impl.Record{{Kind: n, Data: b}, {Kind: 2, Lsn: n, Xid: 1, Data: b}, {Kind: 2, Lsn: 1, Xid: n, Data: b}, {Kind: 1, Lsn: 1, Page: n, Data: b}, {Kind: 4, Lsn: 1, Slot: n, Data: b}} {
				quiet(t, "RecordOk", func() { impl.RecordOk(r) })
				quiet(t, "RecordBytes", func() { impl.RecordBytes(r) })
				quiet(t, "LogBytes", func() { impl.LogBytes([]impl.Record{r, commitRecord(1, 1), r}) })
			}
		}
	}
}
