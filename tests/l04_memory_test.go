package tests

import (
	"bytes"
	"slices"
	"testing"

	"loop.example/g00252/impl"
)

// guardedDisk is a disk all lists of which have marked room behind them.
type guardedDisk struct {
	d     impl.Disk
	want  impl.Disk
	bytes []guarded
}

func (g *guardedDisk) list(b []byte) []byte {
	of := guard(b)
	g.bytes = append(g.bytes, of)
	return of.b
}

func guardDisk(d impl.Disk) *guardedDisk {
	g := &guardedDisk{}
	all := impl.Disk{Fuse: d.Fuse, Down: d.Down}
	for _, s := range d.Sectors {
		all.Sectors = append(all.Sectors, g.list(s))
	}
	for _, w := range d.Waiting {
		all.Waiting = append(all.Waiting, impl.Write{At: w.At, Data: g.list(w.Data)})
	}
	for i := range 3 {
		all.Sectors = append(all.Sectors, g.list(sectorOf(2000+i)))
		all.Waiting = append(all.Waiting, impl.Write{At: i, Data: g.list(sectorOf(3000 + i))})
	}
	g.want = cloneDisk(all)
	g.d = all
	g.d.Sectors, g.d.Waiting = all.Sectors[:len(d.Sectors)], all.Waiting[:len(d.Waiting)]
	return g
}

// check fails when the disk, its lists or the room behind one are not as they were.
func (g *guardedDisk) check(t *testing.T, name string) {
	t.Helper()
	whole := g.d
	whole.Sectors = g.d.Sectors[:len(g.want.Sectors)]
	whole.Waiting = g.d.Waiting[:len(g.want.Waiting)]
	if !sameDisk(whole, g.want) {
		t.Errorf("%s: wrote into its disk or behind a list of it", name)
	}
	for _, b := range g.bytes {
		b.check(t, name)
	}
}

func (g *guardedDisk) spoil() {
	for _, b := range g.bytes {
		spoil(b.b)
	}
	clear(g.d.Sectors)
	clear(g.d.Waiting)
}

// listsOf are all lists of bytes of a disk, each with the room behind it.
func listsOf(d impl.Disk) [][]byte {
	var l [][]byte
	for _, s := range d.Sectors {
		l = append(l, s[:cap(s)])
	}
	for _, w := range d.Waiting {
		l = append(l, w.Data[:cap(w.Data)])
	}
	return l
}

// wantApart writes other bytes into each list of a disk, and then looks whether one wrote over another.
func wantApart(t *testing.T, name string, d impl.Disk) {
	t.Helper()
	lists := listsOf(d)
	for i, b := range lists {
		copy(b, someBytes(len(b), uint64(i)*31+9))
	}
	for i, b := range lists {
		if !bytes.Equal(b, someBytes(len(b), uint64(i)*31+9)) {
			t.Errorf("%s: two lists of the answer share memory", name)
			return
		}
	}
}

// call is one call that answers a disk; data and keep come in beside the disk.
type call struct {
	name string
	do   func(d impl.Disk, data []byte, keep []bool) impl.Disk
}

func diskCalls() []call {
	return []call{
		{"DiskWrite", func(d impl.Disk, data []byte, keep []bool) impl.Disk {
			after, _ := impl.DiskWrite(d, len(d.Sectors)-1, data)
			return after
		}},
		{"DiskWrite to no sector", func(d impl.Disk, data []byte, keep []bool) impl.Disk {
			after, _ := impl.DiskWrite(d, -1, data)
			return after
		}},
		{"DiskSync", func(d impl.Disk, data []byte, keep []bool) impl.Disk {
			after, _ := impl.DiskSync(d)
			return after
		}},
		{"DiskFuse", func(d impl.Disk, data []byte, keep []bool) impl.Disk {
			after, _ := impl.DiskFuse(d, 3)
			return after
		}},
		{"DiskFuse below -1", func(d impl.Disk, data []byte, keep []bool) impl.Disk {
			after, _ := impl.DiskFuse(d, -2)
			return after
		}},
		{"DiskCrash", func(d impl.Disk, data []byte, keep []bool) impl.Disk { return impl.DiskCrash(d, keep) }},
		{"DiskRead", func(d impl.Disk, data []byte, keep []bool) impl.Disk {
			b, _ := impl.DiskRead(d, 0)
			return impl.Disk{Sectors: [][]byte{b}}
		}},
		{"DiskRead of the last", func(d impl.Disk, data []byte, keep []bool) impl.Disk {
			b, _ := impl.DiskRead(d, len(d.Sectors)-1)
			return impl.Disk{Sectors: [][]byte{b}}
		}},
		{"DiskOk", func(d impl.Disk, data []byte, keep []bool) impl.Disk {
			impl.DiskOk(d)
			return impl.Disk{}
		}},
	}
}

// memoryDisks are disks with which the calls answer each code.
func memoryDisks() []namedDisk {
	l := []namedDisk{
		{"none waiting", fullDisk(3)},
		{"some waiting", waitingDisk(3, 0, 2, 0, 1)},
		{"Fuse 0", withFuse(waitingDisk(3, 0, 2), 0)},
		{"Fuse 5", withFuse(waitingDisk(3, 2, 0), 5)},
		{"Down", downed(waitingDisk(3, 1, 2))},
		{"a write short of MaxWaiting", crowdedDisk(3, impl.MaxWaiting-1)},
		{"MaxWaiting", crowdedDisk(3, impl.MaxWaiting)},
		{"both limits", crowdedDisk(impl.MaxSectors, impl.MaxWaiting)},
		{"no sectors", impl.Disk{Fuse: -1}},
		{"a wrong fuse", withFuse(waitingDisk(3, 1), -2)},
		{"a write to no sector", waitingDisk(3, 1, 3)},
	}
	short := waitingDisk(3, 0, 1)
	short.Sectors[1], short.Waiting[1].Data = short.Sectors[1][:9], short.Waiting[1].Data[:8]
	return append(l, namedDisk{"short lists", short})
}

func TestDisksLeaveTheirArgumentsAndShareNothing(t *testing.T) {
	for _, of := range memoryDisks() {
		for _, c := range diskCalls() {
			for _, size := range []int{0, 2, len(of.d.Waiting), len(of.d.Waiting) + 3} {
				name := c.name + ", " + of.name
				g, data := guardDisk(of.d), guard(sectorOf(50))
				room := append(someKeep(size, 51), true, true, true)
				keepWant := slices.Clone(room)
				got := c.do(g.d, data.b, room[:size])
				want := cloneDisk(got)
				g.check(t, name)
				data.check(t, name)
				if !slices.Equal(room, keepWant) {
					t.Errorf("%s: wrote into keep or behind it", name)
				}
				wantApart(t, name, got)
				clear(got.Sectors[:cap(got.Sectors)])
				clear(got.Waiting[:cap(got.Waiting)])
				g.check(t, name+", its answer spoilt")
				data.check(t, name+", its answer spoilt")
				again := c.do(g.d, data.b, room[:size])
				g.spoil()
				spoil(data.b)
				clear(room)
				wantDisk(t, name+", its arguments spoilt", again, want)
			}
		}
	}
}

// knotted is a disk all lists of which are the same bytes, as is what is written to it.
func knotted() (impl.Disk, []byte) {
	one := sectorOf(60)
	d := impl.Disk{Sectors: [][]byte{one, one, one}, Fuse: -1}
	for at := range 3 {
		d.Waiting = append(d.Waiting, impl.Write{At: at, Data: one})
	}
	return d, one
}

func TestAnswersOfKnottedDisksAreApart(t *testing.T) {
	for _, c := range diskCalls() {
		d, one := knotted()
		want := cloneDisk(d)
		got := c.do(d, one, []bool{true, true, false})
		wantApart(t, c.name+" of one list", got)
		wantDisk(t, c.name+" of one list", d, want)
	}
}

// overlapping is a disk whose sectors and writes lie across each other in one piece of memory.
func overlapping() impl.Disk {
	all := someBytes(4*impl.SectorSize, 61)
	d := impl.Disk{Fuse: -1}
	for i := range 3 {
		d.Sectors = append(d.Sectors, all[i*20:i*20+impl.SectorSize])
		d.Waiting = append(d.Waiting, impl.Write{At: 2 - i, Data: all[i*20+7 : i*20+7+impl.SectorSize]})
	}
	return d
}

func TestOverlappingDisksAreTakenAsTheyStand(t *testing.T) {
	d := overlapping()
	want := cloneDisk(d)
	got, code := impl.DiskSync(d)
	wantAnswer(t, "DiskSync across", got, code, plainSync(want), impl.DiskWell)
	wantDisk(t, "DiskSync across, its argument", d, want)
	for _, keep := range [][]bool{nil, {true}, {true, false, true}, {true, true, true}} {
		wantDisk(t, "DiskCrash across", impl.DiskCrash(d, keep), plainCrash(want, keep))
		wantDisk(t, "DiskCrash across, its argument", d, want)
	}
}

func TestNewDisksAreNewMemory(t *testing.T) {
	for _, n := range []int{1, 2, impl.MaxSectors} {
		first, second := impl.DiskNew(n), impl.DiskNew(n)
		wantApart(t, "DiskNew", first)
		for _, d := range []impl.Disk{second, impl.DiskNew(n)} {
			for _, s := range d.Sectors {
				if !bytes.Equal(s, make([]byte, impl.SectorSize)) {
					t.Fatalf("DiskNew(%d): a spoilt answer shows in another", n)
				}
			}
		}
	}
}

func TestADiskIsLeftByTheCallsBehindIt(t *testing.T) {
	first, _ := impl.DiskWrite(fullDisk(3), 1, sectorOf(70))
	want := cloneDisk(first)
	left, _ := impl.DiskWrite(first, 0, sectorOf(71))
	right, _ := impl.DiskWrite(first, 2, sectorOf(72))
	impl.DiskSync(first)
	impl.DiskCrash(first, []bool{true})
	wantDisk(t, "two writes behind one disk", first, want)
	for at, seed := range []int{71, 70, 2} {
		wantSector(t, "the one write", left, at, sectorOf(seed))
	}
	for at, seed := range []int{0, 70, 72} {
		wantSector(t, "the other write", right, at, sectorOf(seed))
	}
}
