package tests

import (
	"bytes"
	"math"
	"testing"

	"loop.example/g00252/impl"
)

func TestDiskConstants(t *testing.T) {
	got := [7]int{impl.SectorSize, impl.MaxSectors, impl.MaxWaiting, impl.DiskWell, impl.DiskBad, impl.DiskFull, impl.DiskDown}
	if got != [7]int{64, 512, 600, 0, 1, 2, 3} {
		t.Errorf("the sizes and codes are %v", got)
	}
}

func TestNewDisks(t *testing.T) {
	for _, n := range []int{1, 2, 3, 64, 198, impl.MaxSectors - 1, impl.MaxSectors} {
		d := impl.DiskNew(n)
		if len(d.Sectors) != n || len(d.Waiting) != 0 || d.Fuse != -1 || d.Down || !impl.DiskOk(d) {
			t.Errorf("DiskNew(%d): %d sectors, %d waiting, Fuse %d, Down %t", n, len(d.Sectors), len(d.Waiting), d.Fuse, d.Down)
		}
		for at, s := range d.Sectors {
			if !bytes.Equal(s, make([]byte, impl.SectorSize)) {
				t.Errorf("DiskNew(%d): sector %d is %x", n, at, s)
			}
			if b, ok := impl.DiskRead(d, at); !ok || !bytes.Equal(b, make([]byte, impl.SectorSize)) {
				t.Errorf("DiskNew(%d): sector %d is read as %x, %t", n, at, b, ok)
			}
		}
	}
}

func TestNewDisksOfWrongSizes(t *testing.T) {
	for _, n := range []int{0, -1, -2, -impl.MaxSectors, impl.MaxSectors + 1, impl.MaxSectors + 2, 1 << 32, 1<<32 + 1, math.MinInt, math.MinInt + 1, math.MaxInt - 1, math.MaxInt} {
		quiet(t, "DiskNew", func() { wantDisk(t, "DiskNew of a wrong size", impl.DiskNew(n), impl.Disk{}) })
	}
}

func TestDisksThatAreOk(t *testing.T) {
	for _, c := range rightDisks() {
		if !impl.DiskOk(c.d) {
			t.Errorf("%s, Fuse %d: not ok", c.name, c.d.Fuse)
		}
	}
}

func TestDisksThatAreNotOk(t *testing.T) {
	for _, c := range wrongDisks() {
		if impl.DiskOk(c.d) {
			t.Errorf("%s: ok", c.name)
		}
		if impl.DiskOk(downed(c.d)) {
			t.Errorf("%s, Down: ok", c.name)
		}
	}
}

func TestTheLastSectorIsLookedAt(t *testing.T) {
	for _, size := range []int{0, impl.SectorSize - 1, impl.SectorSize + 1} {
		for _, n := range []int{1, 2, impl.MaxSectors} {
			d := fullDisk(n)
			d.Sectors[n-1] = make([]byte, size)
			if impl.DiskOk(d) {
				t.Errorf("the last of %d sectors has %d bytes: ok", n, size)
			}
		}
	}
	d := crowdedDisk(2, impl.MaxWaiting)
	d.Waiting[impl.MaxWaiting-1].At = 2
	if impl.DiskOk(d) {
		t.Error("the last of MaxWaiting writes is to no sector: ok")
	}
	d.Waiting[impl.MaxWaiting-1] = impl.Write{At: 1, Data: make([]byte, impl.SectorSize-1)}
	if impl.DiskOk(d) {
		t.Error("the last of MaxWaiting writes has too few bytes: ok")
	}
	d.Waiting[impl.MaxWaiting-1] = impl.Write{At: 1, Data: make([]byte, impl.SectorSize)}
	if !impl.DiskOk(d) {
		t.Error("MaxWaiting writes: not ok")
	}
}

func TestBehindADisksListsIsNotLookedAt(t *testing.T) {
	d := waitingDisk(4, 3, 0)
	d.Sectors[3], d.Waiting[0] = make([]byte, 3), impl.Write{At: 1, Data: sectorOf(7)}
	d.Waiting[1] = impl.Write{At: 99}
	short := impl.Disk{Fuse: -1, Sectors: d.Sectors[:3], Waiting: d.Waiting[:1]}
	if !impl.DiskOk(short) || impl.DiskOk(d) {
		t.Error("what lies behind the lists of a disk counts")
	}
	long := make([]byte, impl.SectorSize+9)
	for _, size := range []int{impl.SectorSize - 1, impl.SectorSize, impl.SectorSize + 1} {
		of := impl.Disk{Fuse: -1, Sectors: [][]byte{long[:size]}}
		if impl.DiskOk(of) != (size == impl.SectorSize) {
			t.Errorf("a sector of %d bytes with room behind: %t", size, impl.DiskOk(of))
		}
	}
}

// wantRefused calls all functions of the chapter that take a disk with one that is not ok.
func wantRefused(t *testing.T, name string, d impl.Disk) {
	t.Helper()
	for _, at := range []int{0, -1, 1, 3, math.MinInt, math.MaxInt} {
		if b, ok := impl.DiskRead(d, at); len(b) != 0 || ok {
			t.Errorf("DiskRead of %s at %d = %x, %t", name, at, b, ok)
		}
		for _, data := range [][]byte{sectorOf(1), nil, make([]byte, impl.SectorSize+1)} {
			got, code := impl.DiskWrite(d, at, data)
			wantAnswer(t, "DiskWrite of "+name, got, code, impl.Disk{}, impl.DiskBad)
		}
	}
	got, code := impl.DiskSync(d)
	wantAnswer(t, "DiskSync of "+name, got, code, impl.Disk{}, impl.DiskBad)
	for _, n := range []int{-2, -1, 0, 1, math.MinInt, math.MaxInt} {
		got, code = impl.DiskFuse(d, n)
		wantAnswer(t, "DiskFuse of "+name, got, code, impl.Disk{}, impl.DiskBad)
	}
	for _, keep := range [][]bool{nil, {true}, {false, true, true, true}, make([]bool, impl.MaxWaiting*2)} {
		wantDisk(t, "DiskCrash of "+name, impl.DiskCrash(d, keep), impl.Disk{})
	}
}

func TestWrongDisksAreRefusedByAll(t *testing.T) {
	for _, c := range wrongDisks() {
		quiet(t, c.name, func() {
			wantRefused(t, c.name, c.d)
			wantRefused(t, c.name+", Down", downed(c.d))
		})
	}
}

func TestWrongDisksWithABurntFuseAreRefused(t *testing.T) {
	for _, c := range wrongDisks() {
		if c.d.Fuse >= -1 {
			wantRefused(t, c.name+", Fuse 0", withFuse(c.d, 0))
			wantRefused(t, c.name+", Fuse 1, Down", downed(withFuse(c.d, 1)))
		}
	}
}

func TestDisksNeverPanic(t *testing.T) {
	numbers := []int{math.MinInt, math.MinInt + 1, -2, -1, 0, 1, 2, 511, 512, 513, math.MaxInt - 1, math.MaxInt}
	for _, c := range append(rightDisks(), wrongDisks()...) {
		for _, n := range numbers {
			quiet(t, "DiskRead of "+c.name, func() { impl.DiskRead(c.d, n) })
			quiet(t, "DiskWrite of "+c.name, func() { impl.DiskWrite(c.d, n, sectorOf(1)) })
			quiet(t, "DiskWrite of no bytes of "+c.name, func() { impl.DiskWrite(c.d, n, nil) })
			quiet(t, "DiskFuse of "+c.name, func() { impl.DiskFuse(c.d, n) })
		}
		quiet(t, "DiskOk of "+c.name, func() { impl.DiskOk(c.d) })
		quiet(t, "DiskSync of "+c.name, func() { impl.DiskSync(c.d) })
		quiet(t, "DiskCrash of "+c.name, func() { impl.DiskCrash(c.d, nil) })
		quiet(t, "DiskCrash of "+c.name, func() { impl.DiskCrash(c.d, make([]bool, impl.MaxWaiting+1)) })
	}
}
