package tests

import (
	"math"
	"testing"

	"loop.example/g00252/impl"
)

func TestRecordLimits(t *testing.T) {
	limits := [6]int{impl.MaxXid, impl.MaxLsn, impl.MaxPages, impl.MaxSlots, impl.MaxTuple, impl.PageSize}
	if limits != [6]int{400, 1000000, 16, 16, 92, 256} {
		t.Errorf("the limits are %v", limits)
	}
	kinds := [6]int{impl.RecImage, impl.RecPut, impl.RecMark, impl.RecClear, impl.RecCommit, impl.RecordForm}
	if kinds != [6]int{1, 2, 3, 4, 5, 4} {
		t.Errorf("the kinds and the code are %v", kinds)
	}
}

func TestRightRecordsAreOk(t *testing.T) {
	for _, r := range append(rightRecords(), oneRecordOfEach()...) {
		if !impl.RecordOk(r) {
			t.Errorf("RecordOk(%v) is false", r)
		}
	}
}

func TestEachWrongFieldIsTold(t *testing.T) {
	for _, w := range wrongRecords() {
		if impl.RecordOk(w.r) {
			t.Errorf("a wrong %s: RecordOk(%v, %d bytes) is true", w.name, w.r, len(w.r.Data))
		}
	}
}

func TestRecordOkAtTheEdgesTheIssueNames(t *testing.T) {
	image, put, mark, clear, commit := imageRecord(5, 3), putRecord(5, 6, 3, 4, 9), markRecord(5, 6, 3, 4), clearRecord(5, 3, 4), commitRecord(5, 6)
	all := []impl.Record{image, put, mark, clear, commit}
	check := func(name string, r impl.Record, want bool) {
		t.Helper()
		if got := impl.RecordOk(r); got != want {
			t.Errorf("kind %d, %s: RecordOk is %t, want %t", r.Kind, name, got, want)
		}
	}
	for _, r := range all {
		check("as it is", r, true)
		for _, lsn := range []int{-1, 0, 1, impl.MaxLsn - 1, impl.MaxLsn, impl.MaxLsn + 1} {
			r.Lsn = lsn
			check("another Lsn", r, lsn >= 1 && lsn <= 1000000)
		}
	}
	for _, r := range []impl.Record{put, mark, commit} {
		for _, xid := range []int{-1, 0, 1, impl.MaxXid - 1, impl.MaxXid, impl.MaxXid + 1} {
			r.Xid = xid
			check("another Xid", r, xid >= 1 && xid <= 400)
		}
	}
	for _, r := range []impl.Record{image, clear} {
		for _, xid := range []int{-1, 1, 400} {
			r.Xid = xid
			check("an Xid that must be 0", r, false)
		}
	}
	for _, r := range []impl.Record{image, put, mark, clear} {
		for _, page := range []int{-1, 0, impl.MaxPages - 1, impl.MaxPages} {
			r.Page = page
			check("another Page", r, page >= 0 && page <= 15)
		}
	}
	for _, page := range []int{-1, 1, 15} {
		commit.Page = page
		check("a Page that must be 0", commit, false)
	}
	commit.Page = 0
	for _, r := range []impl.Record{put, mark, clear} {
		for _, slot := range []int{-1, 0, impl.MaxSlots - 1, impl.MaxSlots} {
			r.Slot = slot
			check("another Slot", r, slot >= 0 && slot <= 15)
		}
	}
	for _, r := range []impl.Record{image, commit} {
		for _, slot := range []int{-1, 1, 15} {
			r.Slot = slot
			check("a Slot that must be 0", r, false)
		}
	}
}

func TestRecordOkOfDataSizes(t *testing.T) {
	for _, r := range oneRecordOfEach() {
		for _, size := range []int{0, 1, 2, 91, 92, 93, 255, 256, 257, 1000, 65536, 65537} {
			r.Data = make([]byte, size)
			want := size == 0
			switch r.Kind {
			case impl.RecImage:
				want = size == 256
			case impl.RecPut:
				want = size >= 1 && size <= 92
			}
			if got := impl.RecordOk(r); got != want {
				t.Errorf("kind %d with %d bytes: RecordOk is %t, want %t", r.Kind, size, got, want)
			}
		}
	}
	mark := markRecord(1, 1, 0, 0)
	mark.Data = make([]byte, 5)[:0]
	image := imageRecord(1, 0)
	image.Data = make([]byte, 256)[:255]
	if !impl.RecordOk(mark) || impl.RecordOk(image) {
		t.Error("room behind Data counts")
	}
}

func TestRecordOkOverAllEdges(t *testing.T) {
	lsns := []int{math.MinInt, -1, 0, 1, 9, 1000000, 1000001, math.MaxInt}
	xids := []int{math.MinInt, -1, 0, 1, 400, 401, math.MaxInt}
	places := []int{math.MinInt, -1, 0, 1, 15, 16, math.MaxInt}
	data := make([]byte, 300)
	for _, kind := range append(wrongKinds(), 1, 2, 3, 4, 5) {
		for _, lsn := range lsns {
			for _, xid := range xids {
				for _, page := range places {
					for _, slot := range places {
						for _, size := range []int{0, 1, 92, 93, 255, 256, 257} {
							r := impl.Record{Kind: kind, Lsn: lsn, Xid: xid, Page: page, Slot: slot, Data: data[:size]}
							if got := impl.RecordOk(r); got != plainOk(r) {
								t.Fatalf("RecordOk of kind %d, Lsn %d, Xid %d, Page %d, Slot %d, %d bytes is %t", kind, lsn, xid, page, slot, size, got)
							}
						}
					}
				}
			}
		}
	}
}
