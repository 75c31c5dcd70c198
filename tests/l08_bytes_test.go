package tests

import (
	"slices"
	"testing"

	"loop.example/g00252/impl"
)

func TestStatusBytesByteByByte(t *testing.T) {
	l := []int{0, 1, 2, 0, 1, 2, 2, 1, 2}
	for n, want := range []string{
		"", "\x00", "\x04", "\x24", "\x24", "\x24\x01", "\x24\x09", "\x24\x29", "\x24\x69", "\x24\x69\x02",
	} {
		wantStatusBytes(t, "the beginning of a list", l[:n], []byte(want))
		wantStatusBytes(t, "the beginning of a list by itself", slices.Clone(l[:n]), []byte(want))
	}
}

func TestStatusBytesEachPlaceByItself(t *testing.T) {
	for n := 1; n <= 9; n++ {
		for xid := 1; xid < n; xid++ {
			for _, status := range threeStatuses() {
				want := make([]byte, (n+3)/4)
				want[xid/4] = byte(status) << (2 * (xid % 4))
				l := make([]int, n)
				l[xid] = status
				wantStatusBytes(t, "one place", l, want)
			}
		}
	}
}

func TestStatusBytesOfAllAlike(t *testing.T) {
	wantStatusBytes(t, "all done", sameOf(9, done), []byte{0x54, 0x55, 0x01})
	wantStatusBytes(t, "all gone", sameOf(9, gone), []byte{0xA8, 0xAA, 0x02})
	wantStatusBytes(t, "all running", sameOf(9, running), []byte{0, 0, 0})
	wantStatusBytes(t, "all something else", sameOf(9, 3), []byte{0, 0, 0})
}

func TestStatusBytesThePlaceNought(t *testing.T) {
	for _, number := range append(threeStatuses(), noStatuses()...) {
		wantStatusBytes(t, "place 0 alone", []int{number}, []byte{0})
		wantStatusBytes(t, "place 0", []int{number, 1, 2, 1, 2}, []byte{0x64, 0x02})
	}
}

func TestStatusBytesOfSomethingElse(t *testing.T) {
	for _, number := range noStatuses() {
		for xid := 1; xid < 9; xid++ {
			l := sameOf(9, gone)
			l[xid] = number
			want := []byte{0xA8, 0xAA, 0x02}
			want[xid/4] &^= 3 << (2 * (xid % 4))
			wantStatusBytes(t, "none of the three", l, want)
		}
	}
}

func TestStatusBytesBehindTheList(t *testing.T) {
	room := sameOf(40, gone)
	for n, want := range [][]byte{{}, {0}, {0x08}, {0x28}, {0xA8}, {0xA8, 0x02}, {0xA8, 0x0A}, {0xA8, 0x2A}, {0xA8, 0xAA}, {0xA8, 0xAA, 0x02}} {
		wantStatusBytes(t, "room behind the list", room[:n], want)
	}
}

func TestStatusBytesOfTheLongest(t *testing.T) {
	l := someStatuses(mostStatuses, 21)
	l[lastXid] = gone
	b := impl.StatusBytes(l)
	if len(b) != 101 || b[100] != gone {
		t.Errorf("the longest list has %d bytes: %x", len(b), b)
	}
	wantStatusBytes(t, "the longest list", l, plainStatusBytes(l))
	wantStatusBytes(t, "one less", l[:lastXid], plainStatusBytes(l)[:100])
	for _, more := range []int{1, 2, 3, 4, 50, 9000} {
		wantStatusBytes(t, "a longer list", someStatuses(mostStatuses+more, 21), nil)
	}
}

func TestStatusBytesAreAsTheDocumentSays(t *testing.T) {
	for seed := range uint64(120) {
		l := someNumbers(int(seed*43)%420, seed)
		wantStatusBytes(t, "some numbers", l, plainStatusBytes(l))
	}
	for n := range mostStatuses + 1 {
		l := someNumbers(n, uint64(n))
		if got := impl.StatusBytes(l); len(got) != (n+3)/4 {
			t.Errorf("%d numbers have %d bytes", n, len(got))
		}
		wantStatusBytes(t, "each length", l, plainStatusBytes(l))
	}
}
