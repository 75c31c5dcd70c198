package tests

import (
	"bytes"
	"encoding/binary"
	"math"
	"slices"
	"testing"

	"loop.example/g00252/impl"
)

// ends are the places behind each record of a log, the beginning at first.
func ends(l []impl.Record) []int {
	places := []int{0}
	for _, r := range l {
		places = append(places, places[len(places)-1]+19+len(r.Data))
	}
	return places
}

// plainScan goes through a log by the document's words alone.
func plainScan(b []byte, lsn int) ([]impl.Record, int) {
	var l []impl.Record
	at := 0
	for firstCode(b[at:]) == 0 {
		size := int(b[at+1]) + 256*int(b[at+2])
		body := b[at+3 : at+3+size]
		if size < 12 {
			break
		}
		r := impl.Record{Kind: int(b[at]), Data: body[12:]}
		r.Lsn, r.Xid = int(binary.LittleEndian.Uint32(body)), int(binary.LittleEndian.Uint32(body[4:]))
		r.Page, r.Slot = int(binary.LittleEndian.Uint16(body[8:])), int(binary.LittleEndian.Uint16(body[10:]))
		if !plainOk(r) || r.Lsn != lsn+len(l) {
			break
		}
		l = append(l, r)
		at += size + 7
	}
	return l, at
}

func TestScanOfNoneOneAndSeveral(t *testing.T) {
	wantScan(t, "no bytes", nil, 1, nil, 0)
	wantScan(t, "no bytes, an empty list", []byte{}, 1, nil, 0)
	for _, r := range oneRecordOfEach() {
		wantScan(t, "one", plainRecord(r), r.Lsn, []impl.Record{r}, 19+len(r.Data))
	}
	for _, n := range []int{2, 3, 10, 100} {
		for _, lsn := range []int{1, 2, 255, 65530, impl.MaxLsn - n + 1} {
			l := someLog(n, lsn)
			b := plainLog(l)
			wantScan(t, "several", b, lsn, l, len(b))
		}
	}
}

func TestScanOfAFirstLsnThatDoesNotFollow(t *testing.T) {
	l := someLog(5, 10)
	b := plainLog(l)
	for _, lsn := range []int{math.MinInt, -10, -1, 0, 1, 8, 9, 11, 12, 14, 15, 10 + 256, 10 + 1<<32, 10 - 1<<32, impl.MaxLsn, impl.MaxLsn + 1, math.MaxInt - 1, math.MaxInt} {
		wantScan(t, "another first Lsn", b, lsn, nil, 0)
	}
	wantScan(t, "the first Lsn", b, 10, l, len(b))
}

func TestScanOfAnLsnThatDoesNotFollowInTheMidst(t *testing.T) {
	for at := range 6 {
		for _, other := range []int{-2, -1, 1, 2, 100, 256} {
			l := someLog(6, 1000)
			l[at].Lsn += other
			wantScan(t, "one with another Lsn", plainLog(l), 1000, l[:at], ends(l)[at])
		}
	}
	for gap := 1; gap < 6; gap++ {
		l := slices.Delete(someLog(6, 1000), gap, gap+1)
		wantScan(t, "one left out", plainLog(l), 1000, l[:gap], ends(l)[gap])
		l = slices.Insert(someLog(6, 1000), gap, someLog(6, 1000)[gap-1])
		wantScan(t, "one twice", plainLog(l), 1000, l[:gap], ends(l)[gap])
	}
	same := []impl.Record{commitRecord(3, 1), commitRecord(3, 2)}
	wantScan(t, "one Lsn twice", plainLog(same), 3, same[:1], 19)
	down := []impl.Record{commitRecord(3, 1), commitRecord(2, 2), commitRecord(4, 3)}
	wantScan(t, "one that falls", plainLog(down), 3, down[:1], 19)
}

func TestScanOfALogCutAnywhere(t *testing.T) {
	l := someLog(12, 1)
	b := plainLog(l)
	places := ends(l)
	for cut := range len(b) + 1 {
		whole := 0
		for whole < len(l) && places[whole+1] <= cut {
			whole++
		}
		wantScan(t, "cut", bytes.Clone(b[:cut]), 1, l[:whole], places[whole])
		wantScan(t, "cut with the rest behind the length", b[:cut], 1, l[:whole], places[whole])
	}
}

func TestScanOfALogWithAnyByteChanged(t *testing.T) {
	l := someLog(7, 30)
	places := ends(l)
	for i := range plainLog(l) {
		b := plainLog(l)
		b[i] ^= byte(1 + i%255)
		whole := 0
		for places[whole+1] <= i {
			whole++
		}
		wantScan(t, "a byte changed", b, 30, l[:whole], places[whole])
	}
}

func TestScanOfBytesThatAreNoRecord(t *testing.T) {
	l := someLog(4, 8)
	b := plainLog(l)
	for _, c := range []struct {
		name   string
		behind []byte
	}{
		{"one byte", []byte{7}},
		{"noughts", make([]byte, 64)},
		{"ones", bytes.Repeat([]byte{255}, 64)},
		{"some bytes", someBytes(100, 44)},
		{"a frame of no kind", plainRecord(impl.Record{Lsn: 12, Xid: 1})},
		{"a frame of another kind", plainRecord(impl.Record{Kind: 6, Lsn: 12, Xid: 1})},
		{"a frame of kind 255", plainFrame(255, nil)},
		{"a frame too short", plainFrame(5, []byte{12, 0, 0, 0})},
		{"a record of no Xid", plainRecord(commitRecord(12, 0))},
		{"a record with Data it must not have", plainRecord(impl.Record{Kind: 5, Lsn: 12, Xid: 1, Data: []byte{1}})},
		{"a record of another sum", highFirst(plainRecord(commitRecord(12, 3)))},
		{"a record of another Lsn", plainRecord(commitRecord(13, 1))},
	} {
		wantScan(t, c.name, c.behind, 12, nil, 0)
		wantScan(t, c.name+" behind records", join(b, c.behind), 8, l, len(b))
		more := join(b, c.behind, plainRecord(commitRecord(12, 1)), plainRecord(commitRecord(13, 1)))
		wantScan(t, c.name+" ahead of more records", more, 8, l, len(b))
	}
	wantScan(t, "a record behind a byte", join([]byte{0}, plainRecord(commitRecord(1, 1))), 1, nil, 0)
}

func TestScanAtTheEdgesOfLsn(t *testing.T) {
	last := commitRecord(impl.MaxLsn, 1)
	wantScan(t, "the last Lsn", plainRecord(last), impl.MaxLsn, []impl.Record{last}, 19)
	behind := commitRecord(impl.MaxLsn+1, 2)
	wantScan(t, "an Lsn past the last", plainLog([]impl.Record{last, behind}), impl.MaxLsn, []impl.Record{last}, 19)
	wantScan(t, "an Lsn past the last at first", plainRecord(behind), impl.MaxLsn+1, nil, 0)
	wantScan(t, "Lsn 0", plainLog([]impl.Record{commitRecord(0, 1), commitRecord(1, 1)}), 0, nil, 0)
	first := commits(2, 1)
	for _, lsn := range []int{0, -1, -1 << 32, 1 << 32, math.MinInt, math.MaxInt} {
		wantScan(t, "a number that none has", plainLog(first), lsn, nil, 0)
		wantScan(t, "a number of no bytes", nil, lsn, nil, 0)
	}
	wantScan(t, "Lsn 1", plainLog(first), 1, first, 38)
	high := plainRecord(impl.Record{Kind: 5, Lsn: math.MaxUint32, Xid: 1})
	for _, lsn := range []int{-1, math.MaxUint32, math.MaxInt} {
		wantScan(t, "an Lsn of all ones", high, lsn, nil, 0)
	}
}

func TestScanOfMaxBytes(t *testing.T) {
	l := fullLog(5)
	b := plainLog(l)
	if len(b) != impl.MaxBytes {
		t.Fatalf("the test's log has %d bytes", len(b))
	}
	wantScan(t, "MaxBytes", b, 5, l, impl.MaxBytes)
	wantScan(t, "one less", b[:len(b)-1], 5, l[:238], 238*275)
	wantScan(t, "one more", append(bytes.Clone(b), 0), 5, nil, 0)
	wantScan(t, "a record more", join(b, plainRecord(commitRecord(244, 1))), 5, nil, 0)
	wantScan(t, "far more", join(b, b), 5, nil, 0)
	few := join(plainLog(l[:3]), make([]byte, impl.MaxBytes-3*275))
	wantScan(t, "MaxBytes with nothing behind", few, 5, l[:3], 3*275)
	wantScan(t, "one more with nothing behind", append(few, 0), 5, nil, 0)
	many := commits(3449, 1)
	wantScan(t, "as many records as may be", join(plainLog(many), make([]byte, 5)), 1, many, 3449*19)
}

func TestScanAsTheWordsSayOverManyLogs(t *testing.T) {
	for seed := range 2000 {
		lsn := 1 + seed%9
		turns := someBytes(6, uint64(seed))
		l := someLog(2+int(turns[0]%8), lsn)
		at := int(turns[1]) % len(l)
		switch turns[2] % 6 {
		case 0:
			l[at].Lsn += int(turns[3]%5) - 2
		case 1:
			l[at].Kind = int(turns[3] % 8)
		case 2:
			l[at].Xid = int(turns[3]) * 2
		case 3:
			l[at].Slot = int(turns[3] % 20)
		}
		b := plainLog(l)
		if turns[4]%3 == 0 {
			b = b[:int(turns[5])%len(b)]
		} else if turns[4]%3 == 1 {
			b[int(turns[5])*7%len(b)] ^= turns[3]
		}
		want, place := plainScan(b, lsn)
		wantScan(t, "a log of some seed", b, lsn, want, place)
	}
}

func TestLogBytesOfRecords(t *testing.T) {
	wantLog(t, "none", nil, nil)
	wantLog(t, "none, an empty list", []impl.Record{}, nil)
	for _, r := range rightRecords() {
		wantLog(t, "one", []impl.Record{r}, plainRecord(r))
	}
	for _, n := range []int{2, 5, 100, 400} {
		l := someLog(n, 3)
		wantLog(t, "several", l, plainLog(l))
	}
	unordered := []impl.Record{commitRecord(9, 1), commitRecord(4, 2), commitRecord(4, 2), commitRecord(1000000, 400)}
	wantLog(t, "numbers that do not follow", unordered, plainLog(unordered))
}

func TestLogBytesOfWrongRecords(t *testing.T) {
	for _, w := range wrongRecords() {
		wantNoLog(t, "one alone", []impl.Record{w.r})
		for at := range 5 {
			wantNoLog(t, "one of five", slices.Insert(someLog(4, 1), at, w.r))
		}
	}
	wantNoLog(t, "two", []impl.Record{{}, {}})
	wantNoLog(t, "behind MaxBytes", append(fullLog(1), impl.Record{}))
	wantNoLog(t, "ahead of MaxBytes", slices.Insert(fullLog(1), 0, impl.Record{}))
}

func TestLogBytesOfMaxBytes(t *testing.T) {
	l := fullLog(1)
	wantLog(t, "MaxBytes", l, plainLog(l))
	short := fullLog(1)
	short[238].Data = short[238].Data[:66]
	wantLog(t, "one less", short, plainLog(short))
	long := fullLog(1)
	long[238].Data = someBytes(68, 45)
	wantNoLog(t, "one more", long)
	wantNoLog(t, "a record more", append(fullLog(1), commitRecord(240, 1)))
	wantNoLog(t, "a record more ahead", slices.Insert(fullLog(1), 0, commitRecord(1, 1)))
	wantNoLog(t, "twice", append(fullLog(1), fullLog(300)...))
	wantLog(t, "as many records as may be", commits(3449, 1), plainLog(commits(3449, 1)))
	wantNoLog(t, "one record more than may be", commits(3450, 1))
	wantNoLog(t, "far too many records", commits(1000000, 1))
}

func TestLogsComeBack(t *testing.T) {
	for _, n := range []int{0, 1, 2, 50, 500} {
		for _, lsn := range []int{1, 77, impl.MaxLsn - 499} {
			l := someLog(n, lsn)
			b, ok := impl.LogBytes(l)
			if !ok {
				t.Fatalf("a log of %d records has no bytes", n)
			}
			wantScan(t, "comes back", b, lsn, l, len(b))
		}
	}
	b, _ := impl.LogBytes(fullLog(2))
	wantScan(t, "a full log comes back", b, 2, fullLog(2), impl.MaxBytes)
}
