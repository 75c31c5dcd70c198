package tests

import (
	"bytes"
	"encoding/binary"
	"hash/crc32"
	"math"
	"testing"

	"loop.example/g00252/impl"
)

// plainFrame lays a frame as the document tells it, by the library, for any kind and length of body.
func plainFrame(kind byte, body []byte) []byte {
	b := binary.LittleEndian.AppendUint16([]byte{kind}, uint16(len(body)))
	b = append(b, body...)
	return binary.LittleEndian.AppendUint32(b, crc32.ChecksumIEEE(b))
}

func wantFrame(t *testing.T, b []byte, at int, kind int, body []byte, next int) {
	t.Helper()
	k, got, n, code := impl.FrameAt(b, at)
	if k != kind || !bytes.Equal(got, body) || n != next || code != impl.FrameWell {
		t.Errorf("FrameAt(%d bytes, %d) = %d, %d bytes, %d, code %d, want %d, %d bytes, %d, well", len(b), at, k, len(got), n, code, kind, len(body), next)
	}
}

func wantCode(t *testing.T, name string, b []byte, at int, want int) {
	t.Helper()
	k, body, next, code := impl.FrameAt(b, at)
	if code != want {
		t.Errorf("%s: FrameAt(%d bytes, %d) has code %d, want %d", name, len(b), at, code, want)
	}
	if k != 0 || len(body) != 0 || next != 0 {
		t.Errorf("%s: beside the code %d stand %d, %v, %d, want zero", name, code, k, body, next)
	}
}

func TestFrameCodes(t *testing.T) {
	got := [4]int{impl.FrameWell, impl.FrameShort, impl.FrameBad, impl.FrameSum}
	if got != [4]int{0, 1, 2, 3} {
		t.Errorf("the codes are %v", got)
	}
	if impl.MaxBytes != 65536 || impl.MaxBody != 1000 {
		t.Errorf("the limits are %d and %d", impl.MaxBytes, impl.MaxBody)
	}
}

func TestFrameIsLaidAsTold(t *testing.T) {
	for _, n := range []int{0, 1, 2, 255, 256, 257, 511, 512, impl.MaxBody - 1, impl.MaxBody} {
		for _, kind := range []int{1, 2, 127, 128, 254, 255} {
			body := someBytes(n, uint64(n))
			if got := impl.Frame(kind, body); !bytes.Equal(got, plainFrame(byte(kind), body)) {
				t.Errorf("Frame(%d, %d bytes) is laid otherwise", kind, n)
			}
		}
	}
	if got := impl.Frame(1, nil); !bytes.Equal(got[:3], []byte{1, 0, 0}) || len(got) != 7 {
		t.Errorf("Frame(1, nil) = %v", got)
	}
}

func TestFrameRefuses(t *testing.T) {
	for _, kind := range []int{0, -1, -255, -256, 256, 257, 511, 512, math.MinInt, math.MaxInt} {
		for _, n := range []int{0, 1, impl.MaxBody, impl.MaxBody + 1} {
			if b := impl.Frame(kind, make([]byte, n)); len(b) != 0 {
				t.Errorf("Frame(%d, %d bytes) has %d bytes, want none", kind, n, len(b))
			}
		}
	}
	for _, n := range []int{impl.MaxBody + 1, impl.MaxBody + 2, 65535, 65536, 65537} {
		for _, kind := range []int{1, 255} {
			if b := impl.Frame(kind, make([]byte, n)); len(b) != 0 {
				t.Errorf("Frame(%d, %d bytes) has %d bytes, want none", kind, n, len(b))
			}
		}
	}
}

func TestFramesComeBack(t *testing.T) {
	for _, n := range []int{0, 1, 2, 3, 100, 255, 256, 300, impl.MaxBody - 1, impl.MaxBody} {
		for _, kind := range []int{1, 2, 9, 128, 255} {
			body := someBytes(n, uint64(n+kind))
			frame := impl.Frame(kind, body)
			wantFrame(t, frame, 0, kind, body, n+7)
			for _, at := range []int{0, 1, 2, 3, 7, 500} {
				ahead := someBytes(at, 3)
				for _, behind := range []int{0, 1, 2, 3, 50} {
					b := join(ahead, frame, someBytes(behind, 4))
					wantFrame(t, b, at, kind, body, at+n+7)
				}
			}
		}
	}
}

func TestEveryBodyLengthComesBack(t *testing.T) {
	for n := range impl.MaxBody + 1 {
		body := someBytes(n, uint64(n))
		wantFrame(t, impl.Frame(1+n%255, body), 0, 1+n%255, body, n+7)
	}
}

func TestFramesOneBehindTheOther(t *testing.T) {
	var b []byte
	for kind := 1; kind <= 255; kind++ {
		b = append(b, impl.Frame(kind, someBytes(kind%40, uint64(kind)))...)
	}
	at := 0
	for kind := 1; kind <= 255; kind++ {
		next := at + kind%40 + 7
		wantFrame(t, b, at, kind, someBytes(kind%40, uint64(kind)), next)
		at = next
	}
	wantCode(t, "the end", b, at, impl.FrameShort)
}

func TestFrameCutAnywhereIsNone(t *testing.T) {
	for _, n := range []int{0, 1, 5, 300, impl.MaxBody} {
		frame := impl.Frame(7, someBytes(n, 8))
		for cut := range len(frame) {
			wantCode(t, "cut", bytes.Clone(frame[:cut]), 0, impl.FrameShort)
			wantCode(t, "cut with the rest behind the length", frame[:cut], 0, impl.FrameShort)
			wantCode(t, "cut behind others", join([]byte{1, 2, 3}, frame[:cut]), 3, impl.FrameShort)
		}
	}
}

// firstCode is the code of a frame at place 0 by the document's words, in their order.
func firstCode(b []byte) int {
	if len(b) > 65536 || len(b) < 3 {
		return 1
	}
	size := int(b[1]) + 256*int(b[2])
	if b[0] == 0 || size > 1000 {
		return 2
	}
	if len(b) < size+7 {
		return 1
	}
	if crc32.ChecksumIEEE(b[:size+3]) != binary.LittleEndian.Uint32(b[size+3:]) {
		return 3
	}
	return 0
}

func TestOneByteChangedIsNoFrame(t *testing.T) {
	for _, n := range []int{0, 1, 6, 20} {
		frame := impl.Frame(7, someBytes(n, 9))
		for i := range frame {
			if i == 1 || i == 2 {
				continue
			}
			for turn := 1; turn < 256; turn++ {
				b := bytes.Clone(frame)
				b[i] ^= byte(turn)
				want := impl.FrameSum
				if b[0] == 0 {
					want = impl.FrameBad
				}
				wantCode(t, "one byte changed", b, 0, want)
			}
		}
	}
	long := impl.Frame(255, someBytes(impl.MaxBody, 10))
	for i := 3; i < len(long); i++ {
		b := bytes.Clone(long)
		b[i] ^= byte(1 + i%255)
		wantCode(t, "one byte of many changed", b, 0, impl.FrameSum)
	}
}

func TestLengthChangedIsAnotherFrameOrNone(t *testing.T) {
	body := someBytes(300, 12)
	frame := join(impl.Frame(7, body), someBytes(800, 13))
	for _, i := range []int{1, 2} {
		for turn := 1; turn < 256; turn++ {
			b := bytes.Clone(frame)
			b[i] ^= byte(turn)
			k, got, _, code := impl.FrameAt(b, 0)
			if k == 7 && bytes.Equal(got, body) {
				t.Errorf("the byte %d turned by %d still tells the frame", i, turn)
			}
			if want := firstCode(b); code != want {
				t.Errorf("the byte %d turned by %d has code %d, want %d", i, turn, code, want)
			}
		}
	}
}

func TestFrameAtFirstReasonCounts(t *testing.T) {
	over := join(impl.Frame(1, []byte{2}), make([]byte, impl.MaxBytes))
	for _, c := range []struct {
		name string
		b    []byte
		want int
	}{
		{"nothing", nil, impl.FrameShort},
		{"one byte, kind 0", []byte{0}, impl.FrameShort},
		{"two bytes, kind 0", []byte{0, 255}, impl.FrameShort},
		{"two bytes", []byte{1, 255}, impl.FrameShort},
		{"too many bytes ahead of kind 0", make([]byte, impl.MaxBytes+1), impl.FrameShort},
		{"too many bytes ahead of a great length", bytes.Repeat([]byte{255}, impl.MaxBytes+1), impl.FrameShort},
		{"too many bytes behind a whole frame", over, impl.FrameShort},
		{"too many bytes by one", over[:impl.MaxBytes+1], impl.FrameShort},
		{"kind 0, three bytes", []byte{0, 0, 0}, impl.FrameBad},
		{"kind 0, a right sum", plainFrame(0, []byte{5}), impl.FrameBad},
		{"kind 0, a wrong sum", []byte{0, 0, 0, 9, 9, 9, 9}, impl.FrameBad},
		{"kind 0, a body that lacks", []byte{0, 5, 0, 1}, impl.FrameBad},
		{"kind 0, a great length", []byte{0, 255, 255}, impl.FrameBad},
		{"a length of 1001, a right sum", plainFrame(1, make([]byte, impl.MaxBody+1)), impl.FrameBad},
		{"a length of 1001, a body that lacks", []byte{1, 0xE9, 3}, impl.FrameBad},
		{"a length of 65535", []byte{1, 255, 255, 7, 7, 7, 7}, impl.FrameBad},
		{"a length of 1000, a body that lacks", []byte{1, 0xE8, 3}, impl.FrameShort},
		{"a length of 1000, a byte of the sum lacks", make1000(7)[:1006], impl.FrameShort},
		{"a length of 0, no sum", []byte{1, 0, 0}, impl.FrameShort},
		{"a wrong sum that lacks a byte", []byte{1, 0, 0, 9, 9, 9}, impl.FrameShort},
		{"a wrong sum", []byte{1, 0, 0, 9, 9, 9, 9}, impl.FrameSum},
		{"a length of 1000, a wrong sum", make1000(7), impl.FrameSum},
		{"a sum high first", highFirst(impl.Frame(3, []byte{1, 2})), impl.FrameSum},
	} {
		wantCode(t, c.name, c.b, 0, c.want)
		if got := firstCode(c.b); got != c.want {
			t.Errorf("%s: the test itself says %d and %d", c.name, got, c.want)
		}
		if len(c.b) < impl.MaxBytes {
			wantCode(t, c.name+", behind others", join([]byte{7, 0, 0}, c.b), 3, c.want)
		}
	}
}

// make1000 is laid as a frame with a body of MaxBody bytes, but its sum is none.
func make1000(kind byte) []byte {
	b := plainFrame(kind, make([]byte, impl.MaxBody))
	b[len(b)-1] ^= 1
	return b
}

func highFirst(frame []byte) []byte {
	sum := frame[len(frame)-4:]
	sum[0], sum[1], sum[2], sum[3] = sum[3], sum[2], sum[1], sum[0]
	return frame
}

func TestFrameAtPlaces(t *testing.T) {
	frame := impl.Frame(4, []byte{1, 2, 3})
	two := join(frame, frame)
	for _, at := range []int{-1, -2, -10, -len(two), math.MinInt, math.MinInt + 1} {
		wantCode(t, "a place below 0", two, at, impl.FrameShort)
	}
	for _, at := range []int{len(two) - 2, len(two) - 1, len(two), len(two) + 1, len(two) + 100} {
		wantCode(t, "a place at the end", two, at, impl.FrameShort)
	}
	for near := range 12 {
		wantCode(t, "a place that wraps round", two, math.MaxInt-near, impl.FrameShort)
		wantCode(t, "a place of no bytes", nil, math.MaxInt-near, impl.FrameShort)
		wantCode(t, "a low place of no bytes", nil, math.MinInt+near, impl.FrameShort)
	}
	wantCode(t, "no bytes", nil, 0, impl.FrameShort)
	wantFrame(t, two, 0, 4, []byte{1, 2, 3}, len(frame))
	wantFrame(t, two, len(frame), 4, []byte{1, 2, 3}, len(two))
}

func TestFrameAtTheLimitOfBytes(t *testing.T) {
	body := someBytes(impl.MaxBody, 14)
	frame := impl.Frame(200, body)
	at := impl.MaxBytes - len(frame)
	b := join(make([]byte, at), frame)
	wantFrame(t, b, at, 200, body, impl.MaxBytes)
	wantCode(t, "one more than MaxBytes", append(bytes.Clone(b), 0), at, impl.FrameShort)
	wantCode(t, "one more than MaxBytes, ahead", join([]byte{0}, b), at+1, impl.FrameShort)
	first := join(frame, make([]byte, impl.MaxBytes-len(frame)))
	wantFrame(t, first, 0, 200, body, len(frame))
	wantCode(t, "one more than MaxBytes, behind", append(first, 0), 0, impl.FrameShort)
}

func TestFrameIsNewMemory(t *testing.T) {
	for _, n := range []int{0, 1, 40, impl.MaxBody, impl.MaxBody + 1} {
		g := guard(someBytes(n, 15))
		frame := impl.Frame(6, g.b)
		g.check(t, "Frame")
		want := bytes.Clone(frame)
		spoil(g.b)
		if !bytes.Equal(frame, want) {
			t.Errorf("Frame of %d bytes shares memory with its body", n)
		}
		spoil(g.b)
		spoil(frame)
		g.check(t, "Frame, its answer spoilt")
		if again := impl.Frame(6, g.b); !bytes.Equal(again, want) {
			t.Errorf("a spoilt Frame of %d bytes shows in a later one", n)
		}
	}
}

func TestFrameAtIsNewMemory(t *testing.T) {
	for _, n := range []int{0, 1, 40, impl.MaxBody} {
		body := someBytes(n, 16)
		g := guard(join([]byte{9, 9}, impl.Frame(6, body), []byte{8}))
		_, got, _, code := impl.FrameAt(g.b, 2)
		g.check(t, "FrameAt")
		spoil(g.b)
		if !bytes.Equal(got, body) || code != impl.FrameWell {
			t.Errorf("FrameAt of a body of %d bytes shares memory with its argument", n)
		}
		spoil(g.b)
		spoil(got)
		g.check(t, "FrameAt, its answer spoilt")
		wantFrame(t, g.b, 2, 6, body, 2+n+7)
	}
}

func TestFrameAtLeavesWhatItRefuses(t *testing.T) {
	frame := impl.Frame(6, someBytes(30, 17))
	for at := -1; at <= len(frame)+1; at++ {
		g := guard(frame)
		impl.FrameAt(g.b, at)
		g.check(t, "FrameAt")
	}
	g := guard(make([]byte, impl.MaxBytes+1))
	impl.FrameAt(g.b, 0)
	g.check(t, "FrameAt of too many bytes")
}

func TestFramesNeverPanic(t *testing.T) {
	numbers := []int{math.MinInt, math.MinInt + 1, -256, -1, 0, 1, 2, 3, 255, 256, 65535, 65536, 65537, math.MaxInt - 7, math.MaxInt - 1, math.MaxInt}
	lists := [][]byte{nil, {}, {0}, {1}, {1, 0}, {1, 0, 0}, {255, 255, 255}, make1000(1), make([]byte, impl.MaxBytes), make([]byte, impl.MaxBytes+1)}
	for _, b := range lists {
		for _, x := range numbers {
			quiet(t, "Frame", func() { impl.Frame(x, b) })
			quiet(t, "FrameAt", func() { impl.FrameAt(b, x) })
		}
		quiet(t, "Crc", func() { impl.Crc(b) })
	}
}

func TestFrameAtAsTheWordsSayOverManyBytes(t *testing.T) {
	for seed := range 3000 {
		b := someBytes(seed%60, uint64(seed))
		if len(b) > 2 {
			b[0] %= 3
			b[1] %= 16
			b[2] %= 2
		}
		if len(b) >= 7 && seed%2 == 0 {
			size := min(int(b[1]), len(b)-7)
			b[1], b[2] = byte(size), 0
			copy(b, plainFrame(b[0], b[3:3+size]))
		}
		k, body, next, code := impl.FrameAt(b, 0)
		if want := firstCode(b); code != want {
			t.Errorf("FrameAt(%v, 0) has code %d, want %d", b, code, want)
		}
		if code == impl.FrameWell && !bytes.Equal(impl.Frame(k, body), b[:next]) {
			t.Errorf("FrameAt(%v, 0) tells what is no frame of it", b)
		}
	}
}
