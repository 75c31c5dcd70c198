package tests

import (
	"bytes"
	"math"
	"testing"

	"loop.example/g00252/impl"
)

func wantSector(t *testing.T, name string, d impl.Disk, at int, want []byte) {
	t.Helper()
	if got, ok := impl.DiskRead(d, at); !ok || !bytes.Equal(got, want) {
		t.Errorf("%s: sector %d is read as %x, %t, want %x", name, at, got, ok, want)
	}
}

func TestReadsOfWhatIsSafe(t *testing.T) {
	for _, n := range []int{1, 2, 5, impl.MaxSectors} {
		d := fullDisk(n)
		for at := range n {
			wantSector(t, "safe", d, at, sectorOf(at))
			wantSector(t, "safe, Down", downed(d), at, sectorOf(at))
			wantSector(t, "safe, Fuse 0", withFuse(d, 0), at, sectorOf(at))
		}
	}
}

func TestReadsOfWhatWaits(t *testing.T) {
	d := waitingDisk(4, 2, 0, 2, 3, 2, 0)
	for _, c := range []namedDisk{{"waiting", d}, {"waiting, Down", downed(d)}, {"waiting, Fuse 0", withFuse(d, 0)}, {"waiting, Fuse 9, Down", downed(withFuse(d, 9))}} {
		wantSector(t, c.name, c.d, 0, sectorOf(1005))
		wantSector(t, c.name, c.d, 1, sectorOf(1))
		wantSector(t, c.name, c.d, 2, sectorOf(1004))
		wantSector(t, c.name, c.d, 3, sectorOf(1003))
	}
	full := crowdedDisk(3, impl.MaxWaiting)
	for back := range 3 {
		i := impl.MaxWaiting - 1 - back
		wantSector(t, "MaxWaiting", full, full.Waiting[i].At, full.Waiting[i].Data)
	}
}

func TestReadsOfNoSector(t *testing.T) {
	for _, n := range []int{1, 2, 3, impl.MaxSectors} {
		for _, d := range []impl.Disk{fullDisk(n), waitingDisk(n, 0, n-1), downed(fullDisk(n)), {Fuse: -1, Sectors: fullDisk(n + 1).Sectors[:n]}} {
			for _, at := range wrongPlaces(n) {
				if b, ok := impl.DiskRead(d, at); len(b) != 0 || ok {
					t.Errorf("of %d sectors the one with the number %d is read as %x, %t", n, at, b, ok)
				}
			}
		}
	}
}

func TestWritesGoBehindTheWaitingOnes(t *testing.T) {
	for _, n := range []int{1, 2, 3, impl.MaxSectors} {
		for _, writes := range []int{0, 1, 2, 50, impl.MaxWaiting - 1} {
			for _, at := range []int{0, n / 2, n - 1} {
				d := crowdedDisk(n, writes)
				want := cloneDisk(d)
				want.Waiting = append(want.Waiting, impl.Write{At: at, Data: sectorOf(3)})
				got, code := impl.DiskWrite(d, at, sectorOf(3))
				wantAnswer(t, "DiskWrite", got, code, want, impl.DiskWell)
				wantSector(t, "written", got, at, sectorOf(3))
				if !impl.DiskOk(got) {
					t.Errorf("a disk of %d sectors and %d writes is not ok behind a write", n, writes)
				}
			}
		}
	}
}

func TestTheFirstWriteIsSeenOnlyBeforeTheSecond(t *testing.T) {
	d := impl.DiskNew(2)
	for seed := range 20 {
		var code int
		d, code = impl.DiskWrite(d, 1, sectorOf(seed))
		if code != impl.DiskWell || len(d.Waiting) != seed+1 {
			t.Fatalf("write %d: code %d, %d waiting", seed, code, len(d.Waiting))
		}
		wantSector(t, "written again", d, 1, sectorOf(seed))
		wantSector(t, "not written", d, 0, make([]byte, impl.SectorSize))
		if !bytes.Equal(d.Sectors[1], make([]byte, impl.SectorSize)) {
			t.Error("a write is safe ahead of a sync")
		}
	}
}

func TestWritesToNoSector(t *testing.T) {
	for _, n := range []int{1, 3, impl.MaxSectors} {
		for _, at := range wrongPlaces(n) {
			for _, d := range []impl.Disk{fullDisk(n), waitingDisk(n, 0), withFuse(fullDisk(n), 2), {Fuse: -1, Sectors: fullDisk(n + 1).Sectors[:n]}} {
				got, code := impl.DiskWrite(d, at, sectorOf(1))
				wantAnswer(t, "DiskWrite to no sector", got, code, impl.Disk{}, impl.DiskBad)
			}
		}
	}
}

func TestWritesOfAnotherSize(t *testing.T) {
	long := make([]byte, 4*impl.SectorSize)
	for _, size := range []int{0, 1, impl.SectorSize - 1, impl.SectorSize + 1, 2 * impl.SectorSize, 3 * impl.SectorSize} {
		got, code := impl.DiskWrite(waitingDisk(3, 1), 1, long[:size])
		wantAnswer(t, "DiskWrite of another size", got, code, impl.Disk{}, impl.DiskBad)
	}
	got, code := impl.DiskWrite(fullDisk(3), 1, nil)
	wantAnswer(t, "DiskWrite of nil", got, code, impl.Disk{}, impl.DiskBad)
	got, code = impl.DiskWrite(fullDisk(3), 1, make([]byte, 1<<20))
	wantAnswer(t, "DiskWrite of very many bytes", got, code, impl.Disk{}, impl.DiskBad)
	if got, code = impl.DiskWrite(fullDisk(3), 1, long[:impl.SectorSize]); code != impl.DiskWell || len(got.Waiting) != 1 || len(got.Waiting[0].Data) != impl.SectorSize {
		t.Errorf("DiskWrite of bytes with room behind: code %d", code)
	}
}

func TestAWrongCallIsBadOnEveryDisk(t *testing.T) {
	for _, d := range []impl.Disk{fullDisk(3), crowdedDisk(3, impl.MaxWaiting)} {
		for _, fuse := range []int{-1, 0, 1, math.MaxInt} {
			for _, c := range []impl.Disk{withFuse(d, fuse), downed(withFuse(d, fuse))} {
				got, code := impl.DiskWrite(c, 3, sectorOf(1))
				wantAnswer(t, "a place behind the last", got, code, impl.Disk{}, impl.DiskBad)
				got, code = impl.DiskWrite(c, -1, sectorOf(1))
				wantAnswer(t, "a place below 0", got, code, impl.Disk{}, impl.DiskBad)
				got, code = impl.DiskWrite(c, 1, make([]byte, impl.SectorSize-1))
				wantAnswer(t, "too few bytes", got, code, impl.Disk{}, impl.DiskBad)
				got, code = impl.DiskWrite(c, 1, make([]byte, impl.SectorSize+1))
				wantAnswer(t, "too many bytes", got, code, impl.Disk{}, impl.DiskBad)
			}
		}
	}
}

func TestMaxWaitingWritesWait(t *testing.T) {
	almost := crowdedDisk(3, impl.MaxWaiting-1)
	full, code := impl.DiskWrite(almost, 2, sectorOf(4))
	if code != impl.DiskWell || len(full.Waiting) != impl.MaxWaiting {
		t.Fatalf("the last write that may wait: code %d, %d waiting", code, len(full.Waiting))
	}
	for _, fuse := range []int{-1, 0, 1, 2, math.MaxInt} {
		for _, d := range []impl.Disk{withFuse(full, fuse), downed(withFuse(full, fuse))} {
			got, code := impl.DiskWrite(d, 2, sectorOf(5))
			wantAnswer(t, "one write more than may wait", got, code, d, impl.DiskFull)
			wantSector(t, "one write more than may wait", got, 2, sectorOf(4))
		}
	}
}

func TestWritesToADiskThatIsDown(t *testing.T) {
	for _, writes := range []int{0, 1, impl.MaxWaiting - 1} {
		for _, fuse := range []int{-1, 0, 1, 2, math.MaxInt} {
			d := downed(withFuse(crowdedDisk(3, writes), fuse))
			got, code := impl.DiskWrite(d, 1, sectorOf(5))
			wantAnswer(t, "DiskWrite, Down", got, code, d, impl.DiskDown)
		}
	}
}

func TestAWriteWithABurntFuseStopsTheDisk(t *testing.T) {
	for _, writes := range []int{0, 1, impl.MaxWaiting - 1} {
		d := withFuse(crowdedDisk(3, writes), 0)
		got, code := impl.DiskWrite(d, 1, sectorOf(5))
		wantAnswer(t, "DiskWrite, Fuse 0", got, code, downed(d), impl.DiskDown)
		again, code := impl.DiskWrite(got, 1, sectorOf(5))
		wantAnswer(t, "DiskWrite again, Fuse 0", again, code, downed(d), impl.DiskDown)
	}
}

func TestTheFuseBehindAWrite(t *testing.T) {
	for _, c := range [][2]int{{-1, -1}, {1, 0}, {2, 1}, {3, 2}, {600, 599}, {math.MaxInt, math.MaxInt - 1}} {
		d := withFuse(waitingDisk(3, 1), c[0])
		want := withFuse(cloneDisk(d), c[1])
		want.Waiting = append(want.Waiting, impl.Write{At: 2, Data: sectorOf(6)})
		got, code := impl.DiskWrite(d, 2, sectorOf(6))
		wantAnswer(t, "DiskWrite with a fuse", got, code, want, impl.DiskWell)
	}
}
