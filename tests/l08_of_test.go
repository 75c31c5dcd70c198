package tests

import (
	"testing"

	"loop.example/g00252/impl"
)

func TestStatusNames(t *testing.T) {
	if impl.StRunning != running || impl.StDone != done || impl.StGone != gone {
		t.Errorf("running, done and gone are %d, %d and %d", impl.StRunning, impl.StDone, impl.StGone)
	}
	if impl.MaxXid != lastXid {
		t.Errorf("MaxXid is %d", impl.MaxXid)
	}
}

func TestStatusOfEachOfTheThree(t *testing.T) {
	for _, xid := range someXids() {
		for _, status := range threeStatuses() {
			for _, around := range threeStatuses() {
				l := sameOf(mostStatuses, around)
				l[xid] = status
				wantStatus(t, "one among others", l, xid, status)
			}
		}
	}
	short := []int{0, gone, running, done}
	wantStatus(t, "a short list", short, 1, gone)
	wantStatus(t, "a short list", short, 2, running)
	wantStatus(t, "a short list", short, 3, done)
}

func TestStatusOfWhoHasNoNumber(t *testing.T) {
	for _, status := range threeStatuses() {
		l := sameOf(mostStatuses+50, status)
		for _, xid := range noXids() {
			wantStatus(t, "no number of a transaction", l, xid, running)
		}
		wantStatus(t, "the first number", l, 1, status)
		wantStatus(t, "the last number", l, lastXid, status)
	}
}

func TestStatusOfTheEndOfTheList(t *testing.T) {
	for n := 2; n <= mostStatuses; n++ {
		l := sameOf(mostStatuses, gone)[:n]
		wantStatus(t, "the last of the list", l, n-1, gone)
		wantStatus(t, "behind the list", l, n, running)
		wantStatus(t, "far behind the list", l, n+7, running)
	}
	wantStatus(t, "of one number", sameOf(9, done)[:1], 1, running)
	wantStatus(t, "of no numbers", sameOf(9, done)[:0], 1, running)
	wantStatus(t, "of nil", nil, 1, running)
	wantStatus(t, "of nil", nil, 0, running)
}

func TestStatusOfSomethingElse(t *testing.T) {
	for _, number := range noStatuses() {
		for _, xid := range someXids() {
			l := sameOf(mostStatuses, done)
			l[xid] = number
			wantStatus(t, "none of the three", l, xid, running)
		}
		l := []int{0, done, number, gone}
		wantStatus(t, "ahead of it", l, 1, done)
		wantStatus(t, "none of the three", l, 2, running)
		wantStatus(t, "behind it", l, 3, gone)
	}
}

func TestStatusOfThePlaceNought(t *testing.T) {
	for _, number := range append(threeStatuses(), noStatuses()...) {
		wantStatus(t, "place 0", []int{number, gone, done}, 0, running)
		wantStatus(t, "behind place 0", []int{number, gone, done}, 1, gone)
		wantStatus(t, "place 0 alone", []int{number}, 0, running)
	}
}

func TestStatusOfAListThatIsLonger(t *testing.T) {
	for _, more := range []int{1, 2, 99, 5000} {
		l := sameOf(mostStatuses+more, running)
		for i := range l {
			l[i] = i%2 + 1
		}
		for xid := 1; xid <= lastXid; xid++ {
			wantStatus(t, "of a long list", l, xid, xid%2+1)
		}
		wantStatus(t, "past the last number", l, lastXid+1, running)
		wantStatus(t, "the last of the list", l, len(l)-1, running)
	}
}

func TestStatusOfIsAsTheDocumentSays(t *testing.T) {
	for seed := range uint64(60) {
		n := int(seed*37) % 450
		l := someNumbers(n, seed)
		for xid := -3; xid < n+5; xid++ {
			wantStatus(t, "some numbers", l, xid, plainStatusOf(l, xid))
		}
	}
}
