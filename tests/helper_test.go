package tests

import (
	"bytes"
	"testing"
)

// spareMark fills the room behind a list's length, so that a write there shows.
const spareMark = 0xA5

const spareRoom = 16

// guarded is a copy of some bytes with marked room behind its length.
type guarded struct {
	b    []byte
	want []byte
}

func guard(b []byte) guarded {
	all := append(bytes.Clone(b), bytes.Repeat([]byte{spareMark}, spareRoom)...)
	return guarded{b: all[:len(b)], want: bytes.Clone(all)}
}

// check fails when the bytes or the room behind them are not as they were.
func (g guarded) check(t *testing.T, name string) {
	t.Helper()
	if !bytes.Equal(g.b[:len(g.want)], g.want) {
		t.Errorf("%s: wrote into its argument or behind it", name)
	}
}

// spoil changes every byte, those of the room behind the length too.
func spoil(b []byte) {
	b = b[:cap(b)]
	for i := range b {
		b[i] ^= 0xFF
	}
}

// someBytes are n bytes that look like none in particular; the seed fixes them.
func someBytes(n int, seed uint64) []byte {
	b := make([]byte, n)
	for i := range b {
		seed = seed*6364136223846793005 + 1442695040888963407
		b[i] = byte(seed >> 56)
	}
	return b
}

// join is all parts one behind the other, in memory of its own.
func join(parts ...[]byte) []byte {
	return bytes.Join(parts, nil)
}

// quiet runs f and tells of a panic as a failure of the test.
func quiet(t *testing.T, name string, f func()) {
	t.Helper()
	defer func() {
		if p := recover(); p != nil {
			t.Errorf("%s: panics: %v", name, p)
		}
	}()
	f()
}
