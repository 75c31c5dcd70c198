package tests

import (
	"math"
	"slices"
	"testing"

	"loop.example/g00252/impl"
)

const (
	running = 0
	done    = 1
	gone    = 2

	lastXid      = 400
	mostStatuses = 401
)

// threeStatuses are all that there are.
func threeStatuses() []int {
	return []int{running, done, gone}
}

// noStatuses are numbers that are none of the three, some of which would be one in fewer bits.
func noStatuses() []int {
	return []int{
		-1, 3, -2, -3, 4, 5, 6, 7, 8, 16, 64, 255, 256, 257, 258, -254, -255, -256,
		1<<16 + 1, 1<<31 + 2, 1<<32 + 1, 1<<32 + 2, -1<<32 + 1, 1<<62 + 2, math.MaxInt, math.MinInt, math.MinInt + 1, math.MinInt + 2,
	}
}

// someXids are places of the longest list at which one more or less, or another bit, might count.
func someXids() []int {
	return []int{1, 2, 3, 4, 5, 7, 8, 9, 127, 128, 129, 254, 255, 256, 257, lastXid - 2, lastXid - 1, lastXid}
}

// noXids are numbers that no transaction has.
func noXids() []int {
	return []int{0, -1, -2, -lastXid, lastXid + 1, lastXid + 2, 1 << 16, 1<<32 + 1, math.MaxInt, math.MaxInt - 1, math.MinInt, math.MinInt + 1}
}

// noLengths are numbers that no list of statuses has.
func noLengths() []int {
	return []int{-1, -2, -4, -mostStatuses, mostStatuses + 1, mostStatuses + 2, 1 << 16, 1<<32 + 1, math.MaxInt, math.MaxInt - 2, math.MaxInt - 3, math.MinInt, math.MinInt + 1}
}

// someLengths are lengths at which a byte begins or ends, and those near the longest.
func someLengths() []int {
	return []int{0, 1, 2, 3, 4, 5, 6, 7, 8, 9, 15, 16, 17, 100, 399, 400, 401}
}

// someStatuses are n statuses that look like none in particular; the place 0 is 0.
func someStatuses(n int, seed uint64) []int {
	l := make([]int, n)
	for i, x := range someBits(n, seed) {
		l[i] = int(x % 3)
	}
	if n > 0 {
		l[0] = 0
	}
	return l
}

// someNumbers are n numbers, some of them statuses and some not, at the place 0 too.
func someNumbers(n int, seed uint64) []int {
	l := make([]int, n)
	all := append(noStatuses(), 0, 1, 2, 0, 1, 2, 0, 1, 2, 0, 1, 2, 0, 1, 2, 0, 1, 2)
	for i, x := range someBits(n, seed) {
		l[i] = all[x%uint64(len(all))]
	}
	return l
}

// sameOf is a list of n times the same number.
func sameOf(n int, number int) []int {
	return slices.Repeat([]int{number}, n)
}

// plainStatusOf is what the document says of StatusOf, word by word.
func plainStatusOf(l []int, xid int) int {
	for place, number := range l {
		if place == xid && xid >= 1 && xid <= lastXid {
			for _, status := range threeStatuses() {
				if number == status {
					return status
				}
			}
		}
	}
	return running
}

func plainStatusSet(l []int, xid int, status int) ([]int, bool) {
	if len(l) > mostStatuses || xid < 1 || xid > lastXid || !slices.Contains(threeStatuses(), status) {
		return nil, false
	}
	after := slices.Clone(l)
	for len(after) <= xid {
		after = append(after, 0)
	}
	after[xid] = status
	return after, true
}

func plainSettle(l []int, n int) []int {
	if n < 0 || n > mostStatuses {
		return nil
	}
	var after []int
	for xid := range n {
		switch {
		case xid == 0:
			after = append(after, 0)
		case plainStatusOf(l, xid) == done:
			after = append(after, done)
		default:
			after = append(after, gone)
		}
	}
	return after
}

// plainStatusBytes counts each byte as a number to the base 4.
func plainStatusBytes(l []int) []byte {
	if len(l) > mostStatuses {
		return nil
	}
	var b []byte
	for at := 0; at < len(l); at += 4 {
		worth, sum := 1, 0
		for place := at; place < at+4; place++ {
			sum += worth * plainStatusOf(l, place)
			worth *= 4
		}
		b = append(b, byte(sum))
	}
	return b
}

// plainStatusRead asks of each number to the base 4 whether it may stand where it does.
func plainStatusRead(b []byte, n int) ([]int, bool) {
	if n < 0 || n > mostStatuses || len(b) != len(plainStatusBytes(make([]int, n))) {
		return nil, false
	}
	var all []int
	for _, x := range b {
		rest := int(x)
		for range 4 {
			all = append(all, rest%4)
			rest /= 4
		}
	}
	for place, status := range all {
		if status == 3 || status != 0 && (place == 0 || place >= n) {
			return nil, false
		}
	}
	return all[:n], true
}

func wantStatus(t *testing.T, name string, l []int, xid int, want int) {
	t.Helper()
	if got := impl.StatusOf(l, xid); got != want {
		t.Errorf("%s: StatusOf of %d is %d, want %d", name, xid, got, want)
	}
}

func wantSet(t *testing.T, name string, l []int, xid int, status int, want []int) {
	t.Helper()
	if got, ok := impl.StatusSet(l, xid, status); !ok || !slices.Equal(got, want) {
		t.Errorf("%s: StatusSet of %d to %d is %v %v, want %v", name, xid, status, got, ok, want)
	}
}

func wantUnset(t *testing.T, name string, l []int, xid int, status int) {
	t.Helper()
	if got, ok := impl.StatusSet(l, xid, status); ok || len(got) != 0 {
		t.Errorf("%s: StatusSet of %d to %d is %v %v, want nothing and false", name, xid, status, got, ok)
	}
}

func wantSettled(t *testing.T, name string, l []int, n int, want []int) {
	t.Helper()
	if got := impl.StatusSettle(l, n); !slices.Equal(got, want) {
		t.Errorf("%s: StatusSettle to %d is %v, want %v", name, n, got, want)
	}
}

func wantStatusBytes(t *testing.T, name string, l []int, want []byte) {
	t.Helper()
	if got := impl.StatusBytes(l); !slices.Equal(got, want) {
		t.Errorf("%s: StatusBytes of %d numbers is %x, want %x", name, len(l), got, want)
	}
}

func wantStatuses(t *testing.T, name string, b []byte, n int, want []int) {
	t.Helper()
	if got, ok := impl.StatusRead(b, n); !ok || !slices.Equal(got, want) {
		t.Errorf("%s: StatusRead of %x as %d is %v %v, want %v", name, b, n, got, ok, want)
	}
}

func wantNoStatuses(t *testing.T, name string, b []byte, n int) {
	t.Helper()
	if got, ok := impl.StatusRead(b, n); ok || len(got) != 0 {
		t.Errorf("%s: StatusRead of %x as %d is %v %v, want nothing and false", name, b, n, got, ok)
	}
}
