package tests

import (
	"bytes"
	"math"
	"testing"

	"loop.example/g00252/impl"
)

func TestCrashesWithKeepsOfEachLength(t *testing.T) {
	d := waitingDisk(4, 0, 1, 2)
	for _, c := range []struct {
		keep []bool
		want [3]int
	}{
		{nil, [3]int{0, 1, 2}},
		{[]bool{}, [3]int{0, 1, 2}},
		{[]bool{false}, [3]int{0, 1, 2}},
		{[]bool{true}, [3]int{1000, 1, 2}},
		{[]bool{false, true}, [3]int{0, 1001, 2}},
		{[]bool{true, true}, [3]int{1000, 1001, 2}},
		{[]bool{false, false, true}, [3]int{0, 1, 1002}},
		{[]bool{true, false, true}, [3]int{1000, 1, 1002}},
		{[]bool{true, true, true}, [3]int{1000, 1001, 1002}},
		{[]bool{false, true, false, true, true}, [3]int{0, 1001, 2}},
		{[]bool{false, false, false, true}, [3]int{0, 1, 2}},
		{[]bool{true, true, true, false, true}, [3]int{1000, 1001, 1002}},
	} {
		want := safeDisk(-1, sectorOf(c.want[0]), sectorOf(c.want[1]), sectorOf(c.want[2]), sectorOf(3))
		wantDisk(t, "DiskCrash", impl.DiskCrash(d, c.keep), want)
	}
}

func TestWhatLiesBehindKeepIsNotRead(t *testing.T) {
	all := []bool{true, true, true, true}
	for n := range 4 {
		want := plainCrash(waitingDisk(3, 0, 1, 2), []bool{n > 0, n > 1, n > 2})
		wantDisk(t, "DiskCrash with room behind keep", impl.DiskCrash(waitingDisk(3, 0, 1, 2), all[:n]), want)
	}
}

func TestCrashesOfEachDiskEndAlike(t *testing.T) {
	for _, d := range []impl.Disk{fullDisk(3), waitingDisk(3, 2, 0)} {
		for _, fuse := range []int{-1, 0, 1, 2, math.MaxInt} {
			for _, keep := range [][]bool{nil, {true}, {false, true}, {true, true, true}} {
				want := plainCrash(d, keep)
				wantDisk(t, "DiskCrash with a fuse", impl.DiskCrash(withFuse(d, fuse), keep), want)
				wantDisk(t, "DiskCrash, Down", impl.DiskCrash(downed(withFuse(d, fuse)), keep), want)
			}
		}
	}
}

func TestCrashesWithTwoWritesToOneSector(t *testing.T) {
	d := waitingDisk(2, 1, 1)
	for _, c := range []struct {
		keep []bool
		want int
	}{
		{[]bool{true, true}, 1001},
		{[]bool{true, false}, 1000},
		{[]bool{true}, 1000},
		{[]bool{false, true}, 1001},
		{[]bool{false, false}, 1},
	} {
		wantDisk(t, "two writes to one sector", impl.DiskCrash(d, c.keep), safeDisk(-1, sectorOf(0), sectorOf(c.want)))
	}
}

// plainCrash does the writes that are kept as the words say, in new memory.
func plainCrash(d impl.Disk, keep []bool) impl.Disk {
	after := cloneDisk(d)
	after.Waiting, after.Fuse, after.Down = nil, -1, false
	for i, k := range keep {
		if k && i < len(d.Waiting) {
			after.Sectors[d.Waiting[i].At] = d.Waiting[i].Data
		}
	}
	return cloneDisk(after)
}

// someKeep is one bool for each bit of numbers that the seed fixes.
func someKeep(n int, seed uint64) []bool {
	keep := make([]bool, n)
	for i, b := range someBytes(n, seed) {
		keep[i] = b&1 == 1
	}
	return keep
}

func TestCrashesOfManyWrites(t *testing.T) {
	for _, n := range []int{1, 2, 7, 198, impl.MaxSectors} {
		d := crowdedDisk(n, impl.MaxWaiting)
		for _, size := range []int{0, 1, impl.MaxWaiting - 1, impl.MaxWaiting, impl.MaxWaiting + 1, impl.MaxWaiting * 3} {
			keep := someKeep(size, uint64(n+size))
			wantDisk(t, "DiskCrash of MaxWaiting", impl.DiskCrash(d, keep), plainCrash(d, keep))
		}
	}
}

func TestWhatWasSyncedIsThereBehindEveryCrash(t *testing.T) {
	d := impl.DiskNew(3)
	d, _ = impl.DiskWrite(d, 0, sectorOf(1))
	d, _ = impl.DiskWrite(d, 1, sectorOf(2))
	d, _ = impl.DiskSync(d)
	d, _ = impl.DiskWrite(d, 2, sectorOf(3))
	for _, keep := range [][]bool{nil, {false}, {true}, {true, true}} {
		got := impl.DiskCrash(d, keep)
		wantSector(t, "synced ahead of a crash", got, 0, sectorOf(1))
		wantSector(t, "synced ahead of a crash", got, 1, sectorOf(2))
		again := impl.DiskCrash(got, []bool{true, true})
		wantDisk(t, "a second crash", again, got)
	}
}

// aKept says whether the sector has what was safe, or what a kept write to it says.
func aKept(d impl.Disk, keep []bool, at int, got []byte) bool {
	if bytes.Equal(got, d.Sectors[at]) {
		return true
	}
	for i, w := range d.Waiting {
		if i < len(keep) && keep[i] && w.At == at && bytes.Equal(got, w.Data) {
			return true
		}
	}
	return false
}

func TestSectorsBehindACrashAreSafeOrKept(t *testing.T) {
	for seed := range 200 {
		n := 1 + seed%9
		d := crowdedDisk(n, seed%40)
		keep := someKeep(seed%50, uint64(seed))
		got := impl.DiskCrash(d, keep)
		for at := range n {
			if b, ok := impl.DiskRead(got, at); !ok || !aKept(d, keep, at, b) {
				t.Errorf("seed %d: sector %d has neither what was safe nor what was kept", seed, at)
			}
		}
	}
}
