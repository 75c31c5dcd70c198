package tests

import (
	"bytes"
	"math"
	"testing"

	"loop.example/g00252/impl"
)

func TestRecordsComeBack(t *testing.T) {
	for _, r := range rightRecords() {
		b := impl.RecordBytes(r)
		wantRecord(t, "from the beginning", b, 0, r, len(b))
		for _, at := range []int{1, 7, 40} {
			wantRecord(t, "in the midst", join(someBytes(at, 41), b, someBytes(9, 42)), at, r, at+len(b))
		}
	}
}

func TestRecordsComeBackOneBehindTheOther(t *testing.T) {
	l := someLog(60, 1)
	b := plainLog(l)
	at := 0
	for _, r := range l {
		next := at + 19 + len(r.Data)
		wantRecord(t, "one behind the other", b, at, r, next)
		at = next
	}
	wantNoRecord(t, "behind all", b, at, impl.FrameShort)
}

func TestRecordAtTellsTheCodesOfFrames(t *testing.T) {
	over := join(plainRecord(commitRecord(1, 1)), make([]byte, impl.MaxBytes))
	for _, c := range []struct {
		name string
		b    []byte
		want int
	}{
		{"nothing", nil, impl.FrameShort},
		{"two bytes", []byte{5, 12}, impl.FrameShort},
		{"too many bytes", over, impl.FrameShort},
		{"too many bytes by one", over[:impl.MaxBytes+1], impl.FrameShort},
		{"no kind", plainRecord(impl.Record{Lsn: 1, Xid: 1}), impl.FrameBad},
		{"no kind, three bytes", []byte{0, 0, 0}, impl.FrameBad},
		{"a body past MaxBody", plainFrame(2, make([]byte, impl.MaxBody+1)), impl.FrameBad},
		{"a body that lacks", []byte{5, 12, 0, 1, 0, 0, 0}, impl.FrameShort},
		{"a sum of another", highFirst(plainRecord(commitRecord(1, 1))), impl.FrameSum},
		{"a wrong record with a wrong sum", highFirst(plainRecord(commitRecord(0, 0))), impl.FrameSum},
		{"a kind that is none with a wrong sum", highFirst(plainRecord(impl.Record{Kind: 6, Lsn: 1})), impl.FrameSum},
		{"a body too short with a wrong sum", highFirst(plainFrame(5, make([]byte, 11))), impl.FrameSum},
	} {
		wantNoRecord(t, c.name, c.b, 0, c.want)
		if len(c.b) < impl.MaxBytes {
			wantNoRecord(t, c.name+", behind others", join([]byte{7, 0, 0}, c.b), 3, c.want)
		}
	}
}

func TestRecordCutAnywhereIsNone(t *testing.T) {
	for _, r := range oneRecordOfEach() {
		b := plainRecord(r)
		for cut := range len(b) {
			wantNoRecord(t, "cut", b[:cut], 0, impl.FrameShort)
			wantNoRecord(t, "cut behind others", join([]byte{1, 2}, b[:cut]), 2, impl.FrameShort)
		}
	}
}

func TestOneByteChangedIsNoRecord(t *testing.T) {
	for _, r := range oneRecordOfEach() {
		for i := range plainRecord(r) {
			b := plainRecord(r)
			b[i] ^= byte(1 + i%255)
			if got, next, code := impl.RecordAt(b, 0); code == impl.FrameWell || next != 0 || !sameRecord(got, impl.Record{}) {
				t.Errorf("kind %d, byte %d changed: %v, %d, code %d", r.Kind, i, got, next, code)
			}
		}
	}
}

func TestRecordFormOfShortBodies(t *testing.T) {
	for kind := 1; kind <= 255; kind++ {
		for size := range 12 {
			wantNoRecord(t, "a body shorter than the numbers", plainFrame(byte(kind), bytes.Repeat([]byte{1}, size)), 0, impl.RecordForm)
		}
	}
	whole := plainBody(commitRecord(1, 1))
	for size := range len(whole) {
		wantNoRecord(t, "a commit that lacks its end", plainFrame(5, whole[:size]), 0, impl.RecordForm)
	}
	wantRecord(t, "a whole commit", plainFrame(5, whole), 0, commitRecord(1, 1), 19)
}

func TestRecordFormOfKindsThatAreNone(t *testing.T) {
	for kind := 6; kind <= 255; kind++ {
		for _, r := range oneRecordOfEach() {
			r.Kind = kind
			wantNoRecord(t, "a kind that is none", plainRecord(r), 0, impl.RecordForm)
		}
		wantNoRecord(t, "a kind that is none, no body", plainFrame(byte(kind), nil), 0, impl.RecordForm)
	}
}

// fitting says whether a record's numbers stand in its bytes whole.
func fitting(r impl.Record) bool {
	return r.Kind > 0 && r.Kind < 256 && r.Lsn >= 0 && r.Lsn < 1<<32 && r.Xid >= 0 && r.Xid < 1<<32 &&
		r.Page >= 0 && r.Page < 1<<16 && r.Slot >= 0 && r.Slot < 1<<16 && len(r.Data) <= impl.MaxBody-12
}

func TestRecordFormOfFieldsOutOfTheirLimits(t *testing.T) {
	count := 0
	for _, w := range wrongRecords() {
		if !fitting(w.r) {
			continue
		}
		count++
		b := plainRecord(w.r)
		wantNoRecord(t, "a wrong "+w.name, b, 0, impl.RecordForm)
		wantNoRecord(t, "a wrong "+w.name+" in the midst", join([]byte{4, 4, 4}, b, []byte{4}), 3, impl.RecordForm)
	}
	if count < 60 {
		t.Errorf("only %d wrong records fit", count)
	}
}

func TestRecordFormByEachByteOfTheNumbers(t *testing.T) {
	for _, r := range oneRecordOfEach() {
		for i := range 12 {
			for turn := 1; turn < 256; turn++ {
				body := plainBody(r)
				body[i] ^= byte(turn)
				want := impl.Record{Kind: r.Kind, Data: body[12:]}
				want.Lsn = int(body[0]) | int(body[1])<<8 | int(body[2])<<16 | int(body[3])<<24
				want.Xid = int(body[4]) | int(body[5])<<8 | int(body[6])<<16 | int(body[7])<<24
				want.Page = int(body[8]) | int(body[9])<<8
				want.Slot = int(body[10]) | int(body[11])<<8
				b := plainFrame(byte(r.Kind), body)
				if plainOk(want) {
					wantRecord(t, "another number", b, 0, want, len(b))
				} else {
					wantNoRecord(t, "a number out of its limits", b, 0, impl.RecordForm)
				}
			}
		}
	}
}

func TestRecordFormByEverySizeOfData(t *testing.T) {
	for _, r := range oneRecordOfEach() {
		for size := range impl.MaxBody - 12 + 1 {
			r.Data = someBytes(size, 43)
			b := plainRecord(r)
			if plainOk(r) {
				wantRecord(t, "a size of Data", b, 0, r, size+19)
			} else {
				wantNoRecord(t, "a wrong size of Data", b, 0, impl.RecordForm)
			}
		}
	}
}

func TestRecordAtPlaces(t *testing.T) {
	one := plainRecord(commitRecord(1, 1))
	two := join(one, plainRecord(clearRecord(2, 3, 4)))
	for _, at := range []int{-1, -2, -19, -len(two), math.MinInt, math.MinInt + 1} {
		wantNoRecord(t, "a place below 0", two, at, impl.FrameShort)
	}
	for _, at := range []int{len(two) - 2, len(two) - 1, len(two), len(two) + 1, len(two) + 100, math.MaxInt - 1, math.MaxInt} {
		wantNoRecord(t, "a place at the end", two, at, impl.FrameShort)
	}
	for near := range 30 {
		wantNoRecord(t, "a place that wraps round", two, math.MaxInt-near, impl.FrameShort)
		wantNoRecord(t, "a place of no bytes", nil, math.MaxInt-near, impl.FrameShort)
		wantNoRecord(t, "a low place of no bytes", nil, math.MinInt+near, impl.FrameShort)
	}
	wantRecord(t, "the first", two, 0, commitRecord(1, 1), 19)
	wantRecord(t, "the second", two, 19, clearRecord(2, 3, 4), 38)
	wantNoRecord(t, "what lies behind the length", two[:37], 19, impl.FrameShort)
}

func TestRecordAtTheLimitOfBytes(t *testing.T) {
	r := imageRecord(9, 9)
	one := plainRecord(r)
	at := impl.MaxBytes - len(one)
	b := join(make([]byte, at), one)
	wantRecord(t, "MaxBytes", b, at, r, impl.MaxBytes)
	wantNoRecord(t, "one more than MaxBytes", append(b, 0), at, impl.FrameShort)
	wantNoRecord(t, "one more than MaxBytes, ahead", join([]byte{0}, b), at+1, impl.FrameShort)
}

func TestRecordAtTellsJustTheBytesOfRecords(t *testing.T) {
	for seed := range 4000 {
		body := someBytes(12+seed%3, uint64(seed))
		for i := range 12 {
			body[i] %= 3
			if i == 2 || i == 3 || i == 6 || i == 7 || i == 9 || i == 11 {
				body[i] %= 2
				body[i] *= byte(seed / 7 % 2)
			}
		}
		b := plainFrame(byte(1+seed%6), body)
		r, next, code := impl.RecordAt(b, 0)
		if code == impl.FrameWell && (next != len(b) || !bytes.Equal(impl.RecordBytes(r), b)) {
			t.Errorf("RecordAt(%v) tells a record with other bytes", b)
		}
		if code != impl.FrameWell && code != impl.RecordForm {
			t.Errorf("RecordAt(%v) has code %d", b, code)
		}
	}
}
