package tests

import (
	"bytes"
	"testing"

	"loop.example/g00252/impl"
)

// model is a disk kept by the words of the chapter: for each sector all that may be read of it, the safe bytes first.
type model struct {
	layers [][][]byte
	order  []int
	fuse   int
	down   bool
}

func newModel(n int) *model {
	m := &model{fuse: -1}
	for range n {
		m.layers = append(m.layers, [][]byte{make([]byte, impl.SectorSize)})
	}
	return m
}

// code is what a call that the fuse counts is answered with.
func (m *model) code() int {
	if m.down || m.fuse == 0 {
		m.down = true
		return impl.DiskDown
	}
	if m.fuse > 0 {
		m.fuse--
	}
	return impl.DiskWell
}

func (m *model) write(at int, data []byte) int {
	if at < 0 || at >= len(m.layers) || len(data) != impl.SectorSize {
		return impl.DiskBad
	}
	if len(m.order) == impl.MaxWaiting {
		return impl.DiskFull
	}
	code := m.code()
	if code == impl.DiskWell {
		m.layers[at] = append(m.layers[at], data)
		m.order = append(m.order, at)
	}
	return code
}

func (m *model) sync() int {
	code := m.code()
	if code == impl.DiskWell {
		for at, l := range m.layers {
			m.layers[at] = [][]byte{l[len(l)-1]}
		}
		m.order = nil
	}
	return code
}

func (m *model) crash(keep []bool) {
	next := make([]int, len(m.layers))
	safe := make([]int, len(m.layers))
	for i, at := range m.order {
		next[at]++
		if i < len(keep) && keep[i] {
			safe[at] = next[at]
		}
	}
	for at, l := range m.layers {
		m.layers[at] = [][]byte{l[safe[at]]}
	}
	m.order, m.fuse, m.down = nil, -1, false
}

// check holds the disk against the model, sector by sector.
func (m *model) check(t *testing.T, d impl.Disk) {
	t.Helper()
	if d.Fuse != m.fuse || d.Down != m.down || len(d.Waiting) != len(m.order) || len(d.Sectors) != len(m.layers) || !impl.DiskOk(d) {
		t.Fatalf("Fuse %d (want %d), Down %t (%t), %d waiting (%d), %d sectors (%d)", d.Fuse, m.fuse, d.Down, m.down, len(d.Waiting), len(m.order), len(d.Sectors), len(m.layers))
	}
	for i, at := range m.order {
		if d.Waiting[i].At != at {
			t.Fatalf("waiting write %d is to sector %d, want %d", i, d.Waiting[i].At, at)
		}
	}
	for at, l := range m.layers {
		if got, ok := impl.DiskRead(d, at); !ok || !bytes.Equal(got, l[len(l)-1]) || !bytes.Equal(d.Sectors[at], l[0]) {
			t.Fatalf("sector %d has other bytes", at)
		}
	}
}

// step does one thing, as the numbers say, to a disk and to its model.
func step(t *testing.T, d impl.Disk, m *model, kind uint64, x uint64) impl.Disk {
	t.Helper()
	n := len(m.layers)
	data := someBytes(impl.SectorSize, x)
	var got impl.Disk
	var code, want int
	switch kind % 16 {
	case 0:
		keep := someKeep(int(x%uint64(2*len(m.order)+2)), x)
		m.crash(keep)
		got = impl.DiskCrash(d, keep)
	case 1:
		m.fuse = int(x%12) - 1
		got, code = impl.DiskFuse(d, m.fuse)
	case 2, 3:
		want = m.sync()
		got, code = impl.DiskSync(d)
	case 4:
		data = data[:x%impl.SectorSize]
		fallthrough
	default:
		at := int(x%uint64(n+2)) - 1
		want = m.write(at, data)
		got, code = impl.DiskWrite(d, at, data)
	}
	if code != want {
		t.Fatalf("kind %d: code %d, want %d", kind%16, code, want)
	}
	if code == impl.DiskBad {
		wantDisk(t, "a bad call", got, impl.Disk{})
		return d
	}
	return got
}

func TestDisksDoAsTheWordsSayOverManyCalls(t *testing.T) {
	for seed := range 60 {
		n := 1 + seed%6
		d, m := impl.DiskNew(n), newModel(n)
		numbers := someBits(600, uint64(seed))
		for i := 0; i+1 < len(numbers); i += 2 {
			d = step(t, d, m, numbers[i]>>20, numbers[i+1]>>20)
			m.check(t, d)
		}
	}
}

func TestManyWritesWithoutASync(t *testing.T) {
	d, m := impl.DiskNew(5), newModel(5)
	for i := range impl.MaxWaiting + 20 {
		want := m.write(i%5, sectorOf(i))
		var code int
		if d, code = impl.DiskWrite(d, i%5, sectorOf(i)); code != want {
			t.Fatalf("write %d: code %d, want %d", i, code, want)
		}
	}
	m.check(t, d)
	keep := someKeep(impl.MaxWaiting, 41)
	m.crash(keep)
	m.check(t, impl.DiskCrash(d, keep))
}
