package tests

import (
	"bytes"
	"hash/crc32"
	"testing"

	"loop.example/g00252/impl"
)

func TestCrcOfKnownBytes(t *testing.T) {
	for _, c := range []struct {
		b    []byte
		want int
	}{
		{nil, 0},
		{[]byte{}, 0},
		{[]byte("123456789"), 3421780262},
		{[]byte{0}, 0xD202EF8D},
		{[]byte{255}, 0xFF000000},
		{[]byte{255, 255, 255, 255}, 0xFFFFFFFF},
		{make([]byte, 32), 0x190A55AD},
	} {
		if got := impl.Crc(c.b); got != c.want {
			t.Errorf("Crc(%v) = %d, want %d", c.b, got, c.want)
		}
	}
}

func TestCrcOfAllSingleBytes(t *testing.T) {
	for c := range 256 {
		b := []byte{byte(c)}
		if got, want := impl.Crc(b), int(crc32.ChecksumIEEE(b)); got != want {
			t.Errorf("Crc(%v) = %d, want %d", b, got, want)
		}
	}
}

func TestCrcOfManyLengths(t *testing.T) {
	for n := range 300 {
		b := someBytes(n, uint64(n)+1)
		if got, want := impl.Crc(b), int(crc32.ChecksumIEEE(b)); got != want {
			t.Errorf("Crc of %d bytes = %d, want %d", n, got, want)
		}
	}
}

func TestCrcAtItsLimit(t *testing.T) {
	for _, n := range []int{impl.MaxBytes - 1, impl.MaxBytes} {
		b := someBytes(n, 5)
		if got, want := impl.Crc(b), int(crc32.ChecksumIEEE(b)); got != want {
			t.Errorf("Crc of %d bytes = %d, want %d", n, got, want)
		}
	}
	for _, n := range []int{impl.MaxBytes + 1, impl.MaxBytes + 2, 2 * impl.MaxBytes} {
		if got := impl.Crc(someBytes(n, 5)); got != -1 {
			t.Errorf("Crc of %d bytes = %d, want -1", n, got)
		}
	}
}

func TestCrcLeavesItsArgument(t *testing.T) {
	for _, n := range []int{0, 1, 9, 1000, impl.MaxBytes, impl.MaxBytes + 1} {
		g := guard(someBytes(n, 11))
		impl.Crc(g.b)
		g.check(t, "Crc")
	}
}

func TestCrcReadsNothingBehindTheLength(t *testing.T) {
	all := []byte("123456789 and more")
	if got := impl.Crc(all[:9]); got != 3421780262 {
		t.Errorf("Crc of nine bytes with more behind them = %d", got)
	}
	long := bytes.Repeat([]byte{1}, impl.MaxBytes+1)
	if got := impl.Crc(long[:1]); got != int(crc32.ChecksumIEEE(long[:1])) {
		t.Errorf("Crc of one byte with many behind it = %d", got)
	}
}
