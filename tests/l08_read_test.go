package tests

import (
	"bytes"
	"slices"
	"testing"

	"loop.example/g00252/impl"
)

func TestStatusReadPlainly(t *testing.T) {
	wantStatuses(t, "five numbers", []byte{0x24, 0x01}, 5, []int{0, 1, 2, 0, 1})
	wantStatuses(t, "the document's order of bits", []byte{0x84}, 4, []int{0, 1, 0, 2})
	wantStatuses(t, "no numbers", nil, 0, nil)
	wantStatuses(t, "no numbers", []byte{}, 0, nil)
	wantStatuses(t, "one number", []byte{0}, 1, []int{0})
}

func TestStatusesComeBack(t *testing.T) {
	for n := range mostStatuses + 1 {
		for seed := range uint64(6) {
			l := someStatuses(n, uint64(n)*10+seed)
			b := impl.StatusBytes(l)
			wantStatuses(t, "a list", b, n, l)
			wantStatuses(t, "a list by the document's words", plainStatusBytes(l), n, l)
		}
		for _, status := range threeStatuses() {
			l := sameOf(n, status)
			if n > 0 {
				l[0] = 0
			}
			wantStatuses(t, "all alike", impl.StatusBytes(l), n, l)
		}
	}
}

func TestEveryShortListComesBack(t *testing.T) {
	lists := [][]int{{0}}
	for range 7 {
		var longer [][]int
		for _, l := range lists {
			wantStatuses(t, "a short list", impl.StatusBytes(l), len(l), l)
			for _, status := range threeStatuses() {
				longer = append(longer, append(slices.Clone(l), status))
			}
		}
		lists = longer
	}
}

func TestWhatIsReadIsTheSameBytes(t *testing.T) {
	for x := range 1 << 16 {
		b := []byte{byte(x), byte(x >> 8)}
		for n := 5; n <= 8; n++ {
			want, whole := plainStatusRead(b, n)
			if !whole {
				wantNoStatuses(t, "two bytes", b, n)
				continue
			}
			wantStatuses(t, "two bytes", b, n, want)
			wantStatusBytes(t, "two bytes again", want, b)
		}
	}
	for x := range 256 {
		b := []byte{byte(x)}
		for n := -1; n <= 9; n++ {
			if want, whole := plainStatusRead(b, n); whole {
				wantStatuses(t, "a byte", b, n, want)
			} else {
				wantNoStatuses(t, "a byte", b, n)
			}
		}
	}
}

func TestStatusReadAnotherCountOfBytes(t *testing.T) {
	for _, n := range someLengths() {
		for _, l := range [][]int{make([]int, n), someStatuses(n, 31)} {
			b := impl.StatusBytes(l)
			for _, more := range []int{1, 2, 100} {
				wantNoStatuses(t, "bytes too many", join(b, make([]byte, more)), n)
			}
			for less := range b {
				wantNoStatuses(t, "bytes too few", b[:less], n)
			}
		}
	}
	wantNoStatuses(t, "very many bytes", make([]byte, 70000), mostStatuses)
	wantNoStatuses(t, "bytes of no numbers", []byte{0}, 0)
}

func TestStatusReadBitsBehindTheList(t *testing.T) {
	for n := 1; n <= mostStatuses; n++ {
		b := impl.StatusBytes(someStatuses(n, uint64(n)))
		for bit := 2 * n; bit < 8*len(b); bit++ {
			wrong := bytes.Clone(b)
			wrong[bit/8] |= 1 << (bit % 8)
			wantNoStatuses(t, "a bit behind the list", wrong, n)
		}
	}
}

func TestStatusReadNoneOfTheThree(t *testing.T) {
	for _, n := range someLengths() {
		b := impl.StatusBytes(someStatuses(n, uint64(n)))
		for xid := range n {
			wrong := bytes.Clone(b)
			wrong[xid/4] |= 3 << (2 * (xid % 4))
			wantNoStatuses(t, "three", wrong, n)
		}
	}
}

func TestStatusReadThePlaceNought(t *testing.T) {
	for _, n := range someLengths()[1:] {
		b := impl.StatusBytes(someStatuses(n, uint64(n)))
		for _, bits := range []byte{1, 2, 3} {
			wrong := bytes.Clone(b)
			wrong[0] |= bits
			wantNoStatuses(t, "the place 0", wrong, n)
		}
	}
}

func TestStatusReadEdgesOfTheCount(t *testing.T) {
	for _, b := range [][]byte{nil, {0}, make([]byte, 100), make([]byte, 101), make([]byte, 102), make([]byte, 1<<14)} {
		for _, n := range noLengths() {
			wantNoStatuses(t, "no length of a list", b, n)
		}
	}
	wantStatuses(t, "the longest list", make([]byte, 101), mostStatuses, make([]int, mostStatuses))
	wantStatuses(t, "one less", make([]byte, 100), lastXid, make([]int, lastXid))
}

func TestStatusReadIsAsTheDocumentSays(t *testing.T) {
	for seed := range uint64(400) {
		n := int(seed*53) % (mostStatuses + 3)
		b := plainStatusBytes(someStatuses(min(n, mostStatuses), seed))
		for at, x := range someBits(len(b), seed+1) {
			if x%97 == 0 {
				b[at] ^= byte(x >> 32)
			}
		}
		if want, whole := plainStatusRead(b, n); whole {
			wantStatuses(t, "some bytes", b, n, want)
		} else {
			wantNoStatuses(t, "some bytes", b, n)
		}
	}
}
