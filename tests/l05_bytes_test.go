package tests

import (
	"bytes"
	"encoding/binary"
	"hash/crc32"
	"testing"

	"loop.example/g00252/impl"
)

func TestRecordBytesByteByByte(t *testing.T) {
	data := []byte{0xAA, 0xBB, 0xCC}
	page := someBytes(256, 40)
	for _, c := range []struct {
		name string
		r    impl.Record
		head []byte
		data []byte
	}{
		{"RecImage", impl.Record{Kind: impl.RecImage, Lsn: 0x0102, Page: 14, Data: page}, []byte{1, 0x0C, 1, 2, 1, 0, 0, 0, 0, 0, 0, 14, 0, 0, 0}, page},
		{"RecPut", impl.Record{Kind: impl.RecPut, Lsn: 1000000, Xid: 400, Page: 15, Slot: 13, Data: data}, []byte{2, 15, 0, 0x40, 0x42, 0x0F, 0, 0x90, 1, 0, 0, 15, 0, 13, 0}, data},
		{"RecMark", impl.Record{Kind: impl.RecMark, Lsn: 0x010203, Xid: 0x0102, Page: 9, Slot: 15}, []byte{3, 12, 0, 3, 2, 1, 0, 2, 1, 0, 0, 9, 0, 15, 0}, nil},
		{"RecClear", impl.Record{Kind: impl.RecClear, Lsn: 255, Page: 1, Slot: 2}, []byte{4, 12, 0, 255, 0, 0, 0, 0, 0, 0, 0, 1, 0, 2, 0}, nil},
		{"RecCommit", impl.Record{Kind: impl.RecCommit, Lsn: 256, Xid: 255}, []byte{5, 12, 0, 0, 1, 0, 0, 255, 0, 0, 0, 0, 0, 0, 0}, nil},
	} {
		want := join(c.head, c.data)
		want = binary.LittleEndian.AppendUint32(want, crc32.ChecksumIEEE(want))
		if got := impl.RecordBytes(c.r); !bytes.Equal(got, want) {
			t.Errorf("%s: RecordBytes = %v, want %v", c.name, got, want)
		}
	}
}

func TestRecordBytesAreFramesOfTheirBodies(t *testing.T) {
	for _, r := range rightRecords() {
		got := impl.RecordBytes(r)
		if !bytes.Equal(got, plainRecord(r)) {
			t.Fatalf("RecordBytes(%v) is laid otherwise", r)
		}
		kind, body, next, code := impl.FrameAt(got, 0)
		if kind != r.Kind || !bytes.Equal(body, plainBody(r)) || next != len(r.Data)+19 || code != impl.FrameWell {
			t.Fatalf("RecordBytes(%v) is no frame of its body", r)
		}
	}
}

func TestRecordBytesOfWrongRecordsAreNone(t *testing.T) {
	for _, w := range wrongRecords() {
		if b := impl.RecordBytes(w.r); len(b) != 0 {
			t.Errorf("a wrong %s: RecordBytes of kind %d has %d bytes", w.name, w.r.Kind, len(b))
		}
	}
}

func TestDifferentRecordsHaveDifferentBytes(t *testing.T) {
	seen := map[string]int{}
	for i, r := range rightRecords() {
		b := string(impl.RecordBytes(r))
		if j, there := seen[b]; there && !sameRecord(r, rightRecords()[j]) {
			t.Fatalf("two records have the same bytes: %v", r)
		}
		seen[b] = i
	}
}
