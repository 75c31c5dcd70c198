package tests

import (
	"bytes"
	"encoding/binary"
	"fmt"
	"math"
	"testing"

	"loop.example/g00252/impl"
)

// someControl is one whose numbers are all others.
func someControl() impl.Control {
	return impl.Control{Seq: 3, Area: 1, Lsn: 4, Next: 5, Pages: 6}
}

// controlField is a number of a control, with its least and its greatest.
type controlField struct {
	name  string
	least int
	most  int
	set   func(c *impl.Control, n int)
}

func controlFields() []controlField {
	return []controlField{
		{"Seq", 1, lastSeq, func(c *impl.Control, n int) { c.Seq = n }},
		{"Area", 0, 1, func(c *impl.Control, n int) { c.Area = n }},
		{"Lsn", 1, lastLsn, func(c *impl.Control, n int) { c.Lsn = n }},
		{"Next", 1, lastXid + 1, func(c *impl.Control, n int) { c.Next = n }},
		{"Pages", 0, mostPages, func(c *impl.Control, n int) { c.Pages = n }},
	}
}

func (f controlField) in(c impl.Control, n int) impl.Control {
	f.set(&c, n)
	return c
}

// rightControls have each field at its least, at its greatest and between, and all at once.
func rightControls() []impl.Control {
	l := []impl.Control{someControl(), {Seq: 1, Lsn: 1, Next: 1}, {Seq: lastSeq, Area: 1, Lsn: lastLsn, Next: lastXid + 1, Pages: mostPages}}
	for _, f := range controlFields() {
		for _, n := range []int{f.least, f.least + 1, f.most - 1, f.most, 255, 256, 257, 65535, 65536} {
			if n >= f.least && n <= f.most {
				l = append(l, f.in(someControl(), n), f.in(l[1], n), f.in(l[2], n))
			}
		}
	}
	return l
}

// wrongControls have one field that is not in its limits.
func wrongControls() []impl.Control {
	l := []impl.Control{{}}
	for _, f := range controlFields() {
		for _, n := range append(past([2]int{f.least, f.most}), f.least-1, f.most+1, f.least-256, f.most+256, f.least+1<<32, f.most+1<<32, -1, math.MinInt, math.MaxInt) {
			l = append(l, f.in(someControl(), n), f.in(rightControls()[1], n))
		}
	}
	return l
}

func wantControl(t *testing.T, name string, b []byte, want impl.Control) {
	t.Helper()
	if got, ok := impl.ControlRead(b); !ok || got != want {
		t.Errorf("%s: ControlRead is %v, %t, want %v", name, got, ok, want)
	}
}

func wantNoControl(t *testing.T, name string, b []byte) {
	t.Helper()
	if got, ok := impl.ControlRead(b); ok || got != (impl.Control{}) {
		t.Errorf("%s: ControlRead is %v, %t, want none", name, got, ok)
	}
}

func TestControlIsLaidAsTold(t *testing.T) {
	got := impl.ControlBytes(impl.Control{Seq: 0x0A0B0C, Area: 1, Lsn: 0x0D0E0F, Next: 0x0101, Pages: 16})
	want := []byte{9, 14, 0, 0x0C, 0x0B, 0x0A, 0, 1, 0x0F, 0x0E, 0x0D, 0, 1, 1, 0, 0, 16}
	want = binary.LittleEndian.AppendUint32(want, uint32(impl.Crc(want)))
	if !bytes.Equal(got, append(want, make([]byte, 43)...)) {
		t.Errorf("ControlBytes is %v, want %v", got, want)
	}
}

func TestControlsComeBack(t *testing.T) {
	for _, c := range rightControls() {
		b := impl.ControlBytes(c)
		if len(b) != 64 || !bytes.Equal(b, plainControl(c)) {
			t.Errorf("ControlBytes of %v is %v, want %v", c, b, plainControl(c))
		}
		wantControl(t, fmt.Sprint(c), b, c)
	}
	for i, x := range someBits(2000, 1701) {
		y := someBits(4, x)
		c := impl.Control{Seq: 1 + int(y[0]>>20%lastSeq), Area: i % 2, Lsn: 1 + int(y[1]>>20%lastLsn), Next: 1 + int(y[2]>>20%(lastXid+1)), Pages: int(y[3] >> 20 % (mostPages + 1))}
		wantControl(t, fmt.Sprint(c), impl.ControlBytes(c), c)
	}
}

func TestWrongControlsHaveNoBytes(t *testing.T) {
	for _, c := range wrongControls() {
		if b := impl.ControlBytes(c); len(b) != 0 {
			t.Errorf("ControlBytes of %v is %v", c, b)
		}
	}
}

// Frames that are whole, of numbers of which one is not in its limits.
func TestSectorsOfWrongControlsAreNone(t *testing.T) {
	for _, c := range wrongControls() {
		if plainControlOk(impl.Control{Seq: int(uint32(c.Seq)), Area: int(byte(c.Area)), Lsn: int(uint32(c.Lsn)), Next: int(uint32(c.Next)), Pages: int(byte(c.Pages))}) {
			continue
		}
		wantNoControl(t, fmt.Sprint("laid ", c), plainControl(c))
	}
	for _, size := range []int{1, 4} {
		for at := range 14 - size + 1 {
			body := plainControlBody(someControl())
			for i := range size {
				body[at+i] = 0xFF
			}
			b := plainPadded(plainFrame(controlFrame, body), sectorSize)
			if want, ok := plainControlRead(b); ok {
				wantControl(t, "numbers of many bits", b, want)
			} else {
				wantNoControl(t, "numbers of many bits", b)
			}
		}
	}
}

// A byte anywhere, those behind the frame too, changed to anything.
func TestAControlWithOneByteChangedIsNone(t *testing.T) {
	for _, c := range []impl.Control{someControl(), {Seq: 1, Lsn: 1, Next: 1}, {Seq: lastSeq, Area: 1, Lsn: lastLsn, Next: lastXid + 1, Pages: mostPages}} {
		for at := range sectorSize {
			for turn := 1; turn < 256; turn++ {
				b := impl.ControlBytes(c)
				b[at] ^= byte(turn)
				wantNoControl(t, fmt.Sprint("byte ", at, " turned by ", turn), b)
			}
		}
	}
}

func TestSectorsOfOtherSizesAreNoControls(t *testing.T) {
	whole := impl.ControlBytes(someControl())
	for n := range len(whole) {
		wantNoControl(t, fmt.Sprint("the first ", n, " bytes"), whole[:n])
		wantNoControl(t, fmt.Sprint("without the first ", n+1, " bytes"), whole[n+1:])
	}
	wantNoControl(t, "nothing", nil)
	wantNoControl(t, "an empty list", []byte{})
	wantNoControl(t, "all 0", make([]byte, sectorSize))
	for _, more := range []int{1, 2, 64, 1000, 65536 - 64, 65536 - 63, 100000} {
		wantNoControl(t, fmt.Sprint(more, " bytes 0 more"), append(bytes.Clone(whole), make([]byte, more)...))
	}
	wantNoControl(t, "twice", append(bytes.Clone(whole), whole...))
	wantNoControl(t, "behind a byte", append([]byte{0}, whole[:63]...))
	wantControl(t, "whole", whole, someControl())
}

func TestOtherFramesAreNoControls(t *testing.T) {
	body := plainControlBody(someControl())
	for kind := range 256 {
		b := plainPadded(plainFrame(byte(kind), body), sectorSize)
		if kind == controlFrame {
			wantControl(t, "its kind", b, someControl())
		} else {
			wantNoControl(t, fmt.Sprint("kind ", kind), b)
		}
	}
	for n := range 58 {
		b := plainPadded(plainFrame(controlFrame, plainPadded(body, 60)[:n]), sectorSize)
		if n == 14 {
			wantControl(t, "its length", b, someControl())
		} else {
			wantNoControl(t, fmt.Sprint("a body of ", n), b)
		}
	}
	for at := 21; at < sectorSize; at++ {
		b := plainControl(someControl())
		copy(b[at:], plainControl(someControl()))
		wantNoControl(t, fmt.Sprint("another one at ", at), b)
	}
}

func TestControlsOfManyBytesAsTheWordsSay(t *testing.T) {
	right := 0
	for i, x := range someBits(4000, 1702) {
		b := plainControl(rightControls()[i%len(rightControls())])
		y := someBits(3, x)
		for k := range int(x >> 20 % 3) {
			b[y[k]>>20%sectorSize] = byte(y[k] >> 40)
		}
		want, ok := plainControlRead(b)
		if ok {
			wantControl(t, "some bytes", b, want)
			right++
		} else {
			wantNoControl(t, "some bytes", b)
		}
	}
	if right < 1000 {
		t.Errorf("%d controls", right)
	}
}

func TestControlsAreNewMemory(t *testing.T) {
	for _, c := range rightControls() {
		first, second := impl.ControlBytes(c), impl.ControlBytes(c)
		wantNoneShared(t, "two answers", first, second)
		g := guard(first)
		spoil(first)
		wantControl(t, "another answer spoilt", second, c)
		wantControl(t, "guarded", g.b, c)
		g.check(t, "ControlRead")
	}
	for n := range sectorSize + 2 {
		g := guard(plainPadded(plainControl(someControl()), 70)[:n])
		impl.ControlRead(g.b)
		g.check(t, "ControlRead")
	}
}

// What stands behind a list is not read: a control that goes on there is none.
func TestControlsAreNotReadBehindTheirBytes(t *testing.T) {
	b := append(plainControl(someControl()), 0, 0)
	for n := range sectorSize {
		wantNoControl(t, fmt.Sprint(n, " bytes"), b[:n])
	}
	wantControl(t, "all", b[:sectorSize], someControl())
}

func TestControlsNeverPanic(t *testing.T) {
	for n := range 300 {
		for seed := range uint64(10) {
			b := someBytes(n, seed+1703)
			if n > 3 && seed > 4 {
				b[0], b[1], b[2] = controlFrame, byte(seed), byte(seed%2)
			}
			quiet(t, "ControlRead", func() { impl.ControlRead(b) })
		}
	}
	quiet(t, "ControlRead of very many", func() { impl.ControlRead(make([]byte, 1<<22)) })
	for _, c := range append(wrongControls(), impl.Control{Seq: math.MinInt, Area: math.MinInt, Lsn: math.MinInt, Next: math.MinInt, Pages: math.MinInt}) {
		quiet(t, "ControlBytes", func() { impl.ControlBytes(c) })
	}
}
