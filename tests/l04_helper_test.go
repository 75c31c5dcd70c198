package tests

import (
	"bytes"
	"math"
	"slices"
	"testing"

	"loop.example/g00252/impl"
)

// sectorOf is a whole sector of bytes that the seed fixes.
func sectorOf(seed int) []byte {
	return someBytes(impl.SectorSize, uint64(seed)*77+5)
}

// fullDisk has n sectors, each with bytes of its own.
func fullDisk(n int) impl.Disk {
	d := impl.Disk{Fuse: -1}
	for i := range n {
		d.Sectors = append(d.Sectors, sectorOf(i))
	}
	return d
}

// waitingDisk is a fullDisk with one waiting write to each of these sectors, each with bytes of its own.
func waitingDisk(n int, ats ...int) impl.Disk {
	d := fullDisk(n)
	for i, at := range ats {
		d.Waiting = append(d.Waiting, impl.Write{At: at, Data: sectorOf(1000 + i)})
	}
	return d
}

// crowdedDisk has n sectors and this many waiting writes, spread over all of them.
func crowdedDisk(n int, writes int) impl.Disk {
	ats := make([]int, writes)
	for i := range ats {
		ats[i] = i * 7 % n
	}
	return waitingDisk(n, ats...)
}

func withFuse(d impl.Disk, fuse int) impl.Disk {
	d.Fuse = fuse
	return d
}

func downed(d impl.Disk) impl.Disk {
	d.Down = true
	return d
}

// cloneDisk is the same disk in memory of its own, with no room behind its lists.
func cloneDisk(d impl.Disk) impl.Disk {
	c := impl.Disk{Fuse: d.Fuse, Down: d.Down}
	for _, s := range d.Sectors {
		c.Sectors = append(c.Sectors, slices.Clip(bytes.Clone(s)))
	}
	for _, w := range d.Waiting {
		c.Waiting = append(c.Waiting, impl.Write{At: w.At, Data: slices.Clip(bytes.Clone(w.Data))})
	}
	c.Sectors, c.Waiting = slices.Clip(c.Sectors), slices.Clip(c.Waiting)
	return c
}

func sameWrite(a impl.Write, b impl.Write) bool {
	return a.At == b.At && bytes.Equal(a.Data, b.Data)
}

func sameDisk(a impl.Disk, b impl.Disk) bool {
	return a.Fuse == b.Fuse && a.Down == b.Down &&
		slices.EqualFunc(a.Sectors, b.Sectors, bytes.Equal) && slices.EqualFunc(a.Waiting, b.Waiting, sameWrite)
}

func wantDisk(t *testing.T, name string, got impl.Disk, want impl.Disk) {
	t.Helper()
	if sameDisk(got, want) {
		return
	}
	t.Errorf("%s: another disk: %d sectors (want %d), %d waiting (%d), Fuse %d (%d), Down %t (%t)",
		name, len(got.Sectors), len(want.Sectors), len(got.Waiting), len(want.Waiting), got.Fuse, want.Fuse, got.Down, want.Down)
}

// wantAnswer looks at what a call answers beside its code, and at the code.
func wantAnswer(t *testing.T, name string, got impl.Disk, code int, want impl.Disk, wantCode int) {
	t.Helper()
	if code != wantCode {
		t.Errorf("%s: code %d, want %d", name, code, wantCode)
	}
	wantDisk(t, name, got, want)
}

// namedDisk is a disk of a test's table.
type namedDisk struct {
	name string
	d    impl.Disk
}

// wrongDisks are disks each of which is not as the chapter wants it for one reason alone.
func wrongDisks() []namedDisk {
	withSector := func(at int, size int) impl.Disk {
		d := fullDisk(3)
		d.Sectors[at] = make([]byte, size)
		return d
	}
	withWrite := func(at int, size int) impl.Disk {
		d := waitingDisk(3, 0, 1)
		d.Waiting = append(d.Waiting, impl.Write{At: at, Data: make([]byte, size)})
		return d
	}
	l := []namedDisk{
		{"zero value", impl.Disk{}},
		{"no sectors", impl.Disk{Fuse: -1}},
		{"no sectors but room", impl.Disk{Fuse: -1, Sectors: fullDisk(3).Sectors[:0]}},
		{"no sectors but a write", impl.Disk{Fuse: -1, Waiting: waitingDisk(1, 0).Waiting}},
		{"a sector too many", fullDisk(impl.MaxSectors + 1)},
		{"many sectors too many", fullDisk(impl.MaxSectors * 2)},
		{"a write too many", crowdedDisk(3, impl.MaxWaiting+1)},
		{"many writes too many", crowdedDisk(3, impl.MaxWaiting*2)},
	}
	for _, size := range []int{0, 1, impl.SectorSize - 1, impl.SectorSize + 1, impl.SectorSize * 2, 65536} {
		for at := range 3 {
			l = append(l, namedDisk{"a sector of another size", withSector(at, size)})
		}
		l = append(l, namedDisk{"a write of another size", withWrite(1, size)}, namedDisk{"a last write of another size", withWrite(2, size)})
	}
	for _, at := range wrongPlaces(3) {
		l = append(l, namedDisk{"a write to no sector", withWrite(at, impl.SectorSize)})
	}
	for _, fuse := range wrongFuses() {
		l = append(l, namedDisk{"a wrong fuse", withFuse(waitingDisk(3, 0), fuse)})
	}
	return l
}

// wrongPlaces are numbers of no sector of a disk of n.
func wrongPlaces(n int) []int {
	return []int{math.MinInt, math.MinInt + 1, -1 << 32, -n, -2, -1, n, n + 1, impl.MaxSectors + n, 1 << 32, math.MaxInt - 1, math.MaxInt}
}

func wrongFuses() []int {
	return []int{-2, -3, -600, -1 << 32, math.MinInt + 1, math.MinInt}
}

// rightDisks are disks that are as the chapter wants them, at its limits too.
func rightDisks() []namedDisk {
	l := []namedDisk{
		{"one sector", fullDisk(1)},
		{"one sector and a write", waitingDisk(1, 0)},
		{"some sectors", fullDisk(5)},
		{"some writes", waitingDisk(5, 4, 0, 4, 2, 0)},
		{"MaxSectors", fullDisk(impl.MaxSectors)},
		{"MaxSectors and a write to the last", waitingDisk(impl.MaxSectors, impl.MaxSectors-1)},
		{"a write short of MaxWaiting", crowdedDisk(3, impl.MaxWaiting-1)},
		{"MaxWaiting", crowdedDisk(3, impl.MaxWaiting)},
		{"both limits", crowdedDisk(impl.MaxSectors, impl.MaxWaiting)},
		{"empty lists", impl.Disk{Fuse: -1, Sectors: fullDisk(2).Sectors, Waiting: []impl.Write{}}},
	}
	for _, fuse := range []int{0, 1, 2, 600, 1 << 32, math.MaxInt - 1, math.MaxInt} {
		l = append(l, namedDisk{"a fuse", withFuse(waitingDisk(3, 2, 1), fuse)})
	}
	for _, n := range l[:len(l):len(l)] {
		l = append(l, namedDisk{n.name + ", Down", downed(n.d)})
	}
	return l
}
