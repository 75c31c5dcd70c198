package tests

import (
	"testing"

	"loop.example/g00252/impl"
)

func TestStatusSettlePlainly(t *testing.T) {
	l := []int{0, done, running, gone, done}
	for n, want := range [][]int{
		nil,
		{0},
		{0, done},
		{0, done, gone},
		{0, done, gone, gone},
		{0, done, gone, gone, done},
		{0, done, gone, gone, done, gone},
		{0, done, gone, gone, done, gone, gone},
	} {
		wantSettled(t, "some list", l, n, want)
	}
}

func TestStatusSettleThePlaceNought(t *testing.T) {
	for _, number := range append(threeStatuses(), noStatuses()...) {
		wantSettled(t, "place 0", []int{number, done}, 1, []int{0})
		wantSettled(t, "place 0", []int{number, done}, 2, []int{0, done})
		wantSettled(t, "place 0", []int{number}, 3, []int{0, gone, gone})
	}
}

func TestStatusSettleSomethingElse(t *testing.T) {
	for _, number := range noStatuses() {
		wantSettled(t, "none of the three", []int{0, number, done, number}, 5, []int{0, gone, done, gone, gone})
	}
}

func TestStatusSettleNothing(t *testing.T) {
	wantSettled(t, "nil", nil, 0, nil)
	wantSettled(t, "nil", nil, 1, []int{0})
	wantSettled(t, "nil", nil, 4, []int{0, gone, gone, gone})
	wantSettled(t, "what lies behind the list", sameOf(9, done)[:2], 4, []int{0, done, gone, gone})
}

func TestStatusSettleEdgesOfTheLength(t *testing.T) {
	for _, l := range [][]int{nil, {0}, {0, 1, 2}, someStatuses(lastXid, 5), someStatuses(mostStatuses, 5), someStatuses(mostStatuses+30, 5)} {
		for _, n := range noLengths() {
			wantSettled(t, "no length of a list", l, n, nil)
		}
		for _, n := range []int{0, 1, lastXid, mostStatuses} {
			wantSettled(t, "a length of a list", l, n, plainSettle(l, n))
		}
		if got := impl.StatusSettle(l, mostStatuses); len(got) != mostStatuses {
			t.Errorf("the longest list has %d numbers", len(got))
		}
	}
}

func TestStatusSettleAListThatIsLonger(t *testing.T) {
	for _, status := range threeStatuses() {
		l := sameOf(mostStatuses+20, status)
		wantSettled(t, "a longer list", l, mostStatuses, plainSettle(l, mostStatuses))
		wantSettled(t, "a longer list", l, 3, plainSettle(l, 3))
	}
}

func TestSettledNobodyRuns(t *testing.T) {
	for seed := range uint64(60) {
		l := someNumbers(int(seed*41)%430, seed)
		for _, n := range someLengths() {
			after := impl.StatusSettle(l, n)
			if len(after) != n {
				t.Fatalf("%d numbers settled to %d are %d", len(l), n, len(after))
			}
			for xid, status := range after {
				if xid > 0 && impl.StatusOf(after, xid) == running {
					t.Fatalf("%d runs among %d", xid, n)
				}
				if xid > 0 && (status == done) != (plainStatusOf(l, xid) == done) {
					t.Fatalf("%d is settled as %d, and was %d", xid, status, plainStatusOf(l, xid))
				}
			}
			wantSettled(t, "some numbers", l, n, plainSettle(l, n))
			wantSettled(t, "what is settled already", after, n, after)
			wantStatuses(t, "what is settled", impl.StatusBytes(after), n, after)
		}
	}
}
