package tests

import (
	"slices"
	"testing"

	"loop.example/g00252/impl"
)

func TestStatusSetPlainly(t *testing.T) {
	for _, c := range []struct {
		name   string
		l      []int
		xid    int
		status int
		want   []int
	}{
		{"a place that is there", []int{0, 1, 2, 0}, 2, done, []int{0, 1, 1, 0}},
		{"the first place", []int{0, 1, 2, 0}, 1, gone, []int{0, 2, 2, 0}},
		{"the last place", []int{0, 1, 2, 0}, 3, gone, []int{0, 1, 2, 2}},
		{"what stands there already", []int{0, 1, 2, 0}, 1, done, []int{0, 1, 2, 0}},
		{"back to running", []int{0, 1, 2, 0}, 2, running, []int{0, 1, 0, 0}},
		{"behind the last one", []int{0, 1, 2, 0}, 4, done, []int{0, 1, 2, 0, 1}},
		{"behind the last one, running", []int{0, 1, 2, 0}, 4, running, []int{0, 1, 2, 0, 0}},
		{"places between", []int{0, 1, 2, 0}, 8, gone, []int{0, 1, 2, 0, 0, 0, 0, 0, 2}},
		{"places between, running", []int{5}, 4, running, []int{5, 0, 0, 0, 0}},
		{"into nothing", nil, 1, done, []int{0, 1}},
		{"far into nothing", nil, 3, gone, []int{0, 0, 0, 2}},
		{"whatever stands at the place 0", []int{7}, 1, done, []int{7, 1}},
		{"none of the three around it", []int{-1, 3, 99, 4}, 2, done, []int{-1, 3, 1, 4}},
		{"over none of the three", []int{0, 3, -1, 1}, 2, running, []int{0, 3, 0, 1}},
	} {
		wantSet(t, c.name, c.l, c.xid, c.status, c.want)
	}
}

func TestStatusSetOverRoomThatIsNotEmpty(t *testing.T) {
	room := sameOf(40, gone)
	wantSet(t, "what lies behind the list is not handed out", room[:2], 6, done, []int{2, 2, 0, 0, 0, 0, 1})
	wantSet(t, "what lies behind no list is not handed out", room[:0], 3, done, []int{0, 0, 0, 1})
}

func TestStatusSetLeavesAllElse(t *testing.T) {
	for seed := range uint64(40) {
		n := int(seed*29) % (mostStatuses + 1)
		l := someNumbers(n, seed)
		for _, xid := range someXids() {
			status := int(seed) % 3
			after, ok := impl.StatusSet(l, xid, status)
			if !ok || len(after) != max(n, xid+1) || impl.StatusOf(after, xid) != status {
				t.Fatalf("%d numbers, %d set to %d: %v %v", n, xid, status, after, ok)
			}
			for place, number := range after {
				if place < n && place != xid && number != l[place] {
					t.Fatalf("%d numbers, %d set: at %d stands %d, not %d", n, xid, place, number, l[place])
				}
				if place >= n && place != xid && number != 0 {
					t.Fatalf("%d numbers, %d set: at the new place %d stands %d", n, xid, place, number)
				}
			}
		}
	}
}

func TestStatusSetEdgesOfTheList(t *testing.T) {
	for _, xid := range []int{1, 200, lastXid} {
		full := someNumbers(mostStatuses, 7)
		want := slices.Clone(full)
		want[xid] = gone
		wantSet(t, "the longest list", full, xid, gone, want)
		for _, more := range []int{1, 2, 100, 9000} {
			wantUnset(t, "a longer list", someStatuses(mostStatuses+more, 7), xid, gone)
			wantUnset(t, "a longer list of noughts", make([]int, mostStatuses+more), xid, running)
		}
	}
	wantSet(t, "one less than the longest list", sameOf(lastXid, done), lastXid, gone, append(sameOf(lastXid, done), gone))
}

func TestStatusSetEdgesOfTheNumber(t *testing.T) {
	for _, l := range [][]int{nil, {0}, {0, 1, 2}, someStatuses(lastXid, 3), someStatuses(mostStatuses, 3)} {
		for _, status := range threeStatuses() {
			for _, xid := range noXids() {
				wantUnset(t, "no number of a transaction", l, xid, status)
			}
			for _, xid := range []int{1, lastXid} {
				want, _ := plainStatusSet(l, xid, status)
				wantSet(t, "the first or last number", l, xid, status, want)
			}
		}
	}
}

func TestStatusSetEdgesOfTheStatus(t *testing.T) {
	for _, l := range [][]int{nil, {0}, {0, 1, 2}, {0, 3, -1}, someStatuses(mostStatuses, 3)} {
		for _, xid := range []int{1, 2, 50, lastXid} {
			for _, status := range noStatuses() {
				wantUnset(t, "none of the three", l, xid, status)
			}
			for _, status := range threeStatuses() {
				want, _ := plainStatusSet(l, xid, status)
				wantSet(t, "one of the three", l, xid, status, want)
			}
		}
	}
}

func TestStatusSetOneBehindTheOther(t *testing.T) {
	var l []int
	told := map[int]int{}
	for i, x := range someBits(600, 11) {
		xid, status := int(x%lastXid)+1, int(x>>32)%3
		after, ok := impl.StatusSet(l, xid, status)
		if !ok {
			t.Fatalf("step %d: refused", i)
		}
		l, told[xid] = after, status
		for xid := -1; xid <= lastXid+2; xid++ {
			wantStatus(t, "on the way", l, xid, told[xid])
		}
		wantStatuses(t, "on the way", impl.StatusBytes(l), len(l), l)
	}
}
