package tests

import (
	"bytes"
	"encoding/binary"
	"math"
	"slices"
	"testing"

	"loop.example/g00252/impl"
)

func imageRecord(lsn int, page int) impl.Record {
	return impl.Record{Kind: 1, Lsn: lsn, Page: page, Data: someBytes(256, uint64(lsn)*3+1)}
}

func putRecord(lsn int, xid int, page int, slot int, size int) impl.Record {
	return impl.Record{Kind: 2, Lsn: lsn, Xid: xid, Page: page, Slot: slot, Data: someBytes(size, uint64(lsn)*5+2)}
}

func markRecord(lsn int, xid int, page int, slot int) impl.Record {
	return impl.Record{Kind: 3, Lsn: lsn, Xid: xid, Page: page, Slot: slot}
}

func clearRecord(lsn int, page int, slot int) impl.Record {
	return impl.Record{Kind: 4, Lsn: lsn, Page: page, Slot: slot}
}

func commitRecord(lsn int, xid int) impl.Record {
	return impl.Record{Kind: 5, Lsn: lsn, Xid: xid}
}

// someLog is a log of n records of all kinds, whose Lsn are lsn and on.
func someLog(n int, lsn int) []impl.Record {
	var l []impl.Record
	for i := range n {
		switch at := lsn + i; (i*i + i/5) % 5 {
		case 0:
			l = append(l, putRecord(at, 1+i%400, i%16, (i+3)%16, 1+i*7%92))
		case 1:
			l = append(l, markRecord(at, 400-i%400, (i+9)%16, i%16))
		case 2:
			l = append(l, commitRecord(at, 1+i*3%400))
		case 3:
			l = append(l, clearRecord(at, i%16, (i+5)%16))
		default:
			l = append(l, imageRecord(at, i%16))
		}
	}
	return l
}

func commits(n int, lsn int) []impl.Record {
	var l []impl.Record
	for i := range n {
		l = append(l, commitRecord(lsn+i, 1+i%400))
	}
	return l
}

// fullLog is a log whose bytes are MaxBytes together: 238 images of 275 bytes, and a put of 86.
func fullLog(lsn int) []impl.Record {
	var l []impl.Record
	for i := range 238 {
		l = append(l, imageRecord(lsn+i, i%16))
	}
	return append(l, putRecord(lsn+238, 9, 8, 7, 67))
}

// rightRecords are records of each kind that are as the chapter wants them, at its limits too.
func rightRecords() []impl.Record {
	l := []impl.Record{}
	for _, lsn := range []int{1, 2, 255, 256, 65535, 65536, 999999, 1000000} {
		for _, page := range []int{0, 1, 7, 15} {
			l = append(l, imageRecord(lsn, page))
			for _, slot := range []int{0, 1, 8, 15} {
				l = append(l, clearRecord(lsn, page, slot))
				for _, xid := range []int{1, 2, 255, 256, 399, 400} {
					l = append(l, markRecord(lsn, xid, page, slot))
					l = append(l, putRecord(lsn, xid, page, slot, 1+(lsn+xid+page+slot)%92))
				}
			}
		}
		for _, xid := range []int{1, 2, 255, 256, 399, 400} {
			l = append(l, commitRecord(lsn, xid))
		}
	}
	for size := 1; size <= 92; size++ {
		l = append(l, putRecord(3, 4, 5, 6, size))
	}
	return l
}

// plainBody lays the numbers of a record as the document tells them, as many bits of each as fit.
func plainBody(r impl.Record) []byte {
	b := binary.LittleEndian.AppendUint32(nil, uint32(r.Lsn))
	b = binary.LittleEndian.AppendUint32(b, uint32(r.Xid))
	b = binary.LittleEndian.AppendUint16(b, uint16(r.Page))
	b = binary.LittleEndian.AppendUint16(b, uint16(r.Slot))
	return append(b, r.Data...)
}

// plainRecord lays any record, a wrong one too.
func plainRecord(r impl.Record) []byte {
	return plainFrame(byte(r.Kind), plainBody(r))
}

func plainLog(l []impl.Record) []byte {
	var b []byte
	for _, r := range l {
		b = append(b, plainRecord(r)...)
	}
	return b
}

func sameRecord(a impl.Record, b impl.Record) bool {
	return a.Kind == b.Kind && a.Lsn == b.Lsn && a.Xid == b.Xid && a.Page == b.Page && a.Slot == b.Slot && bytes.Equal(a.Data, b.Data)
}

func sameLog(a []impl.Record, b []impl.Record) bool {
	return slices.EqualFunc(a, b, sameRecord)
}

// cloneLog is the same records in memory of their own.
func cloneLog(l []impl.Record) []impl.Record {
	c := slices.Clone(l)
	for i := range c {
		c[i].Data = bytes.Clone(c[i].Data)
	}
	return c
}

func wantRecord(t *testing.T, name string, b []byte, at int, want impl.Record, next int) {
	t.Helper()
	r, n, code := impl.RecordAt(b, at)
	if !sameRecord(r, want) || n != next || code != impl.FrameWell {
		t.Errorf("%s: RecordAt(%d bytes, %d) = %v, %d, code %d, want %v, %d, well", name, len(b), at, r, n, code, want, next)
	}
}

// wantNoRecord looks at the code, and that all beside it is zero.
func wantNoRecord(t *testing.T, name string, b []byte, at int, want int) {
	t.Helper()
	r, next, code := impl.RecordAt(b, at)
	if code != want {
		t.Errorf("%s: RecordAt(%d bytes, %d) has code %d, want %d", name, len(b), at, code, want)
	}
	if !sameRecord(r, impl.Record{}) || next != 0 {
		t.Errorf("%s: beside the code %d stand %v and %d, want zero", name, code, r, next)
	}
}

func wantScan(t *testing.T, name string, b []byte, lsn int, want []impl.Record, at int) {
	t.Helper()
	l, got := impl.LogScan(b, lsn)
	if !sameLog(l, want) || got != at {
		t.Errorf("%s: LogScan(%d bytes, %d) has %d records up to %d, want %d up to %d", name, len(b), lsn, len(l), got, len(want), at)
	}
}

func wantLog(t *testing.T, name string, l []impl.Record, want []byte) {
	t.Helper()
	if b, ok := impl.LogBytes(l); !ok || !bytes.Equal(b, want) {
		t.Errorf("%s: LogBytes of %d records has %d bytes and %t, want %d and true", name, len(l), len(b), ok, len(want))
	}
}

func wantNoLog(t *testing.T, name string, l []impl.Record) {
	t.Helper()
	if b, ok := impl.LogBytes(l); ok || len(b) != 0 {
		t.Errorf("%s: LogBytes of %d records has %d bytes and %t, want none and false", name, len(l), len(b), ok)
	}
}

// wrongRecord is a record that is not as the chapter wants it.
type wrongRecord struct {
	name string
	r    impl.Record
}

// recordEdge is the least and the greatest worth of a field of a kind.
type recordEdge struct {
	kind            int
	xid, page, slot [2]int
	size            [2]int
}

// recordEdges are the limits as the document names them, in numbers.
func recordEdges() []recordEdge {
	return []recordEdge{
		{1, [2]int{0, 0}, [2]int{0, 15}, [2]int{0, 0}, [2]int{256, 256}},
		{2, [2]int{1, 400}, [2]int{0, 15}, [2]int{0, 15}, [2]int{1, 92}},
		{3, [2]int{1, 400}, [2]int{0, 15}, [2]int{0, 15}, [2]int{0, 0}},
		{4, [2]int{0, 0}, [2]int{0, 15}, [2]int{0, 15}, [2]int{0, 0}},
		{5, [2]int{1, 400}, [2]int{0, 0}, [2]int{0, 0}, [2]int{0, 0}},
	}
}

// plainOk says by the table of limits whether a record is as the chapter wants it.
func plainOk(r impl.Record) bool {
	in := func(n int, edge [2]int) bool { return edge[0] <= n && n <= edge[1] }
	for _, e := range recordEdges() {
		if e.kind == r.Kind {
			return in(r.Lsn, [2]int{1, 1000000}) && in(r.Xid, e.xid) && in(r.Page, e.page) && in(r.Slot, e.slot) && in(len(r.Data), e.size)
		}
	}
	return false
}

// oneRecordOfEach is a right record of each kind, away from the limits.
func oneRecordOfEach() []impl.Record {
	return []impl.Record{imageRecord(70, 5), putRecord(71, 30, 6, 7, 40), markRecord(72, 31, 8, 9), clearRecord(73, 10, 11), commitRecord(74, 32)}
}

// past are numbers outside of an edge, next to it and far from it.
func past(edge [2]int) []int {
	low, high := edge[0], edge[1]
	return []int{low - 1, high + 1, low - 256, high + 256, low - 65536, high + 65536, low - 1<<32, high + 1<<32, math.MinInt, math.MinInt + 1, math.MaxInt - 1, math.MaxInt}
}

func wrongSizes(edge [2]int) []int {
	var l []int
	for _, n := range []int{edge[0] - 1, edge[1] + 1, edge[1] + 256, 0, 1, 92, 93, 255, 256, 257, 988, 989, 65536} {
		if n >= 0 && (n < edge[0] || n > edge[1]) {
			l = append(l, n)
		}
	}
	return l
}

// wrongRecords are records each of which is wrong in one field alone.
func wrongRecords() []wrongRecord {
	var l []wrongRecord
	for i, r := range oneRecordOfEach() {
		e := recordEdges()[i]
		wrong := func(name string, change func(r *impl.Record, n int), ns []int) {
			for _, n := range ns {
				c := r
				change(&c, n)
				l = append(l, wrongRecord{name, c})
			}
		}
		wrong("Lsn", func(r *impl.Record, n int) { r.Lsn = n }, past([2]int{1, 1000000}))
		wrong("Xid", func(r *impl.Record, n int) { r.Xid = n }, past(e.xid))
		wrong("Page", func(r *impl.Record, n int) { r.Page = n }, past(e.page))
		wrong("Slot", func(r *impl.Record, n int) { r.Slot = n }, past(e.slot))
		wrong("Data", func(r *impl.Record, n int) { r.Data = make([]byte, n) }, wrongSizes(e.size))
		wrong("Kind", func(r *impl.Record, n int) { r.Kind = n }, wrongKinds())
	}
	return append(l, wrongRecord{"zero value", impl.Record{}})
}

func wrongKinds() []int {
	return []int{math.MinInt, math.MinInt + 1, math.MinInt + 5, -1 << 32, -256, -255, -5, -1, 0, 6, 7, 255, 256, 257, 258, 259, 260, 261, 1<<32 + 1, 1<<32 + 5, math.MaxInt - 1, math.MaxInt}
}
