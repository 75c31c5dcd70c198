package tests

import (
	"fmt"
	"math"
	"slices"
	"testing"

	"loop.example/g00252/impl"
)

// listOf are n statuses, all of them gone, but for these, which are done; the place 0 is 0.
func listOf(n int, dones ...int) []int {
	l := sameOf(n, gone)
	l[0] = 0
	for _, xid := range dones {
		l[xid] = done
	}
	return l
}

func TestListOfNoRecords(t *testing.T) {
	for _, next := range []int{1, 2, 3, 5, 8, 400, 401} {
		wantList(t, "no list", nil, nil, next, listOf(next), next)
		wantList(t, "an empty list", []int{}, []impl.Record{}, next, listOf(next), next)
		wantList(t, "a list of nobody", []int{0}, nil, next, listOf(next), next)
		wantList(t, "a list of nobody that says something", []int{done}, nil, next, listOf(next), next)
	}
	wantList(t, "those that ran are gone", []int{0, running, done, gone, running}, nil, 5, []int{0, gone, done, gone, gone}, 5)
	wantList(t, "a shorter list", []int{0, running, done}, nil, 5, []int{0, gone, done, gone, gone}, 5)
	wantList(t, "a longer list", []int{0, done, done, done, done}, nil, 3, []int{0, done, done}, 3)
	wantList(t, "what is no status", []int{7, 3, -1, 257, done, math.MinInt + 1}, nil, 6, []int{0, gone, gone, gone, done, gone}, 6)
}

// Whoever logged something has a number; who logged that it was committed is done.
func TestListByEachKindOfRecord(t *testing.T) {
	for _, of := range []struct {
		name  string
		r     impl.Record
		after int
		done  bool
	}{
		{"an image", imageOf(1, 9, impl.Page{}), 3, false},
		{"a put", tupleRecord(1, 9, 9, oneTuple()), 8, false},
		{"a mark", markRecord(1, 7, 9, 9), 8, false},
		{"a clear", clearRecord(1, 9, 9), 3, false},
		{"a commit", commitRecord(1, 7), 8, true},
	} {
		if of.r.Xid != 0 {
			of.r.Xid = 7
		}
		want := listOf(of.after, 1)
		if of.done {
			want[7] = done
		}
		wantList(t, of.name, []int{0, done, running}, []impl.Record{of.r}, 3, want, of.after)
		wantList(t, of.name+" twice", []int{0, done, running}, []impl.Record{of.r, of.r}, 3, want, of.after)
		all := listOf(20, 1, 19)
		if of.done {
			all[7] = done
		}
		wantList(t, of.name+", next above it", append(listOf(19, 1), done), []impl.Record{of.r}, 20, all, 20)
	}
}

// A record's Page, Slot, Lsn and Data count for nothing here, and pages are not looked at.
func TestListByXidsAlone(t *testing.T) {
	l := []impl.Record{putRecord(9, 4, 15, 15, 92), imageRecord(3, 15), markRecord(3, 5, 8, 15), clearRecord(1000000, 15, 15), commitRecord(1, 4), commitRecord(1000000, 2)}
	wantList(t, "numbers that do not follow", nil, l, 1, []int{0, gone, done, gone, done, gone}, 6)
	slices.Reverse(l)
	wantList(t, "the other way round", nil, l, 1, []int{0, gone, done, gone, done, gone}, 6)
}

func TestListByTheNumberAfter(t *testing.T) {
	for _, xid := range []int{1, 2, 5, 399, 400} {
		for _, next := range []int{1, 2, 3, 5, 6, 7, 399, 400, 401} {
			after := max(next, xid+1)
			wantList(t, fmt.Sprint("a commit of ", xid, ", next ", next), nil, []impl.Record{commitRecord(8, xid)}, next, listOf(after, xid), after)
			wantList(t, fmt.Sprint("a mark by ", xid, ", next ", next), nil, []impl.Record{markRecord(8, xid, 0, 0)}, next, listOf(after), after)
			wantList(t, fmt.Sprint("both by ", xid, ", next ", next), nil, []impl.Record{markRecord(8, xid, 0, 0), commitRecord(9, 1)}, next, listOf(after, 1), after)
		}
	}
}

func TestListThatIsShorterOrLonger(t *testing.T) {
	l := []impl.Record{commitRecord(1, 5), commitRecord(2, 9), markRecord(3, 11, 0, 0)}
	for n := range mostStatuses + 1 {
		list := sameOf(n, done)
		var want []int
		for xid := range 12 {
			want = append(want, []int{gone, done}[oneIf(xid < n || xid == 5 || xid == 9)])
		}
		want[0] = 0
		wantList(t, fmt.Sprint("a list of ", n, " that are done"), list, l, 4, want, 12)
		wantList(t, fmt.Sprint("a list of ", n, " that run"), sameOf(n, running), l, 4, listOf(12, 5, 9), 12)
		wantList(t, fmt.Sprint("a list of ", n, " that are gone"), sameOf(n, gone), l, 4, listOf(12, 5, 9), 12)
	}
}

func TestListByItsLimits(t *testing.T) {
	l := []impl.Record{commitRecord(1, 400)}
	all := listOf(mostStatuses, 400)
	wantList(t, "MaxXid + 1 numbers", sameOf(mostStatuses, running), l, mostStatuses, all, mostStatuses)
	wantList(t, "MaxXid + 1 numbers, next 1", sameOf(mostStatuses, running), nil, 1, []int{0}, 1)
	wantNoList(t, "one number more", sameOf(mostStatuses+1, running), l, mostStatuses)
	wantNoList(t, "one number more, next 1", sameOf(mostStatuses+1, done), nil, 1)
	wantNoList(t, "very many", sameOf(100000, done), l, 1)
	for _, next := range []int{0, -1, -400, mostStatuses + 1, mostStatuses + 2, 1 << 32, 1<<32 + 1, math.MaxInt, math.MinInt, math.MinInt + 1} {
		wantNoList(t, fmt.Sprint("next ", next), []int{0, 1}, nil, next)
		wantNoList(t, fmt.Sprint("next ", next, ", a record"), []int{0, 1}, l, next)
	}
	wantNoList(t, "all of it wrong", sameOf(mostStatuses+1, 9), []impl.Record{{}}, 0)
}

func TestListOfWhatIsNoRecord(t *testing.T) {
	right := []impl.Record{commitRecord(1, 3), putRecord(2, 4, 1, 1, 40), commitRecord(3, 4)}
	wantList(t, "without it", []int{0, 1}, right, 2, []int{0, done, gone, done, done}, 5)
	for _, w := range wrongRecords() {
		for at := range len(right) + 1 {
			wantNoList(t, fmt.Sprint("wrong ", w.name, " at the place ", at), []int{0, 1}, slices.Insert(slices.Clone(right), at, w.r), 2)
		}
		wantNoList(t, "wrong "+w.name+" alone", nil, []impl.Record{w.r}, 1)
		wantNoList(t, "wrong "+w.name+", next as great as may be", nil, []impl.Record{w.r}, mostStatuses)
	}
}

func TestListOfOneXidTwice(t *testing.T) {
	wantList(t, "committed twice", []int{0}, []impl.Record{commitRecord(1, 2), commitRecord(2, 2)}, 1, []int{0, gone, done}, 3)
	wantList(t, "committed, and writes behind it", []int{0}, []impl.Record{commitRecord(1, 2), markRecord(2, 2, 0, 0), putRecord(3, 2, 0, 0, 9)}, 1, []int{0, gone, done}, 3)
	wantList(t, "gone by the list, and committed", []int{0, gone, gone}, []impl.Record{commitRecord(1, 2)}, 3, []int{0, gone, done}, 3)
	wantList(t, "what is no status by the list, and committed", []int{0, 9, -9}, []impl.Record{commitRecord(1, 2)}, 3, []int{0, gone, done}, 3)
	wantList(t, "done by the list, and writes", []int{0, done, done}, []impl.Record{markRecord(1, 2, 0, 0)}, 3, []int{0, done, done}, 3)
	wantList(t, "done by the list, and committed", []int{0, done, done}, []impl.Record{commitRecord(1, 2)}, 3, []int{0, done, done}, 3)
}

func TestListAsTheDocumentSays(t *testing.T) {
	for i, x := range someBits(1500, 1604) {
		y := someBits(4, x)
		list := someNumbers(int(y[0]>>20%403), y[0])
		var l []impl.Record
		for k := range y[1] >> 20 % 12 {
			of := someBits(2, y[1]+k)
			r := oneRecordOfEach()[of[0]>>20%5]
			if r.Xid != 0 {
				r.Xid = 1 + int(of[1]>>20%400)
			}
			if of[1]>>40%60 == 0 {
				r.Lsn = 0
			}
			l = append(l, r)
		}
		next := int(y[2] >> 20 % 404)
		want, after := plainRedoList(list, l, next)
		wantList(t, fmt.Sprint("seed ", i), list, l, next, want, after)
	}
}
