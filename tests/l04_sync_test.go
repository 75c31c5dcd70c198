package tests

import (
	"math"
	"testing"

	"loop.example/g00252/impl"
)

// safeDisk is the disk of these sectors, nothing waiting.
func safeDisk(fuse int, sectors ...[]byte) impl.Disk {
	return impl.Disk{Sectors: sectors, Fuse: fuse}
}

func TestSyncDoesWritesInTheirOrder(t *testing.T) {
	d := waitingDisk(4, 2, 0, 2, 3, 0, 2)
	want := safeDisk(-1, sectorOf(1004), sectorOf(1), sectorOf(1005), sectorOf(1003))
	got, code := impl.DiskSync(d)
	wantAnswer(t, "DiskSync", got, code, want, impl.DiskWell)
	got, code = impl.DiskSync(waitingDisk(1, 0, 0))
	wantAnswer(t, "DiskSync of two writes to one sector", got, code, safeDisk(-1, sectorOf(1001)), impl.DiskWell)
}

func TestSyncOfNothing(t *testing.T) {
	for _, n := range []int{1, 3, impl.MaxSectors} {
		got, code := impl.DiskSync(fullDisk(n))
		wantAnswer(t, "DiskSync, none waiting", got, code, fullDisk(n), impl.DiskWell)
		got, code = impl.DiskSync(withFuse(fullDisk(n), 1))
		wantAnswer(t, "DiskSync, none waiting, Fuse 1", got, code, withFuse(fullDisk(n), 0), impl.DiskWell)
	}
}

// plainSync does all waiting writes as the words say, in new memory.
func plainSync(d impl.Disk) impl.Disk {
	after := cloneDisk(d)
	for _, w := range after.Waiting {
		after.Sectors[w.At] = w.Data
	}
	after.Waiting = nil
	return cloneDisk(after)
}

func TestSyncOfMaxWaiting(t *testing.T) {
	for _, n := range []int{1, 2, 3, 100, impl.MaxSectors} {
		d := crowdedDisk(n, impl.MaxWaiting)
		got, code := impl.DiskSync(d)
		wantAnswer(t, "DiskSync of MaxWaiting", got, code, plainSync(d), impl.DiskWell)
		got, code = impl.DiskWrite(got, 0, sectorOf(8))
		if code != impl.DiskWell || len(got.Waiting) != 1 {
			t.Errorf("a write behind a sync of MaxWaiting: code %d, %d waiting", code, len(got.Waiting))
		}
	}
}

func TestSyncOfADiskThatIsDown(t *testing.T) {
	for _, writes := range []int{0, 1, impl.MaxWaiting} {
		for _, fuse := range []int{-1, 0, 1, 2, math.MaxInt} {
			d := downed(withFuse(crowdedDisk(3, writes), fuse))
			got, code := impl.DiskSync(d)
			wantAnswer(t, "DiskSync, Down", got, code, d, impl.DiskDown)
		}
	}
}

func TestASyncWithABurntFuseStopsTheDisk(t *testing.T) {
	for _, writes := range []int{0, 1, impl.MaxWaiting} {
		d := withFuse(crowdedDisk(3, writes), 0)
		got, code := impl.DiskSync(d)
		wantAnswer(t, "DiskSync, Fuse 0", got, code, downed(d), impl.DiskDown)
		got, code = impl.DiskSync(got)
		wantAnswer(t, "DiskSync again, Fuse 0", got, code, downed(d), impl.DiskDown)
	}
}

func TestTheFuseBehindASync(t *testing.T) {
	for _, c := range [][2]int{{-1, -1}, {1, 0}, {2, 1}, {600, 599}, {math.MaxInt, math.MaxInt - 1}} {
		d := withFuse(waitingDisk(2, 1, 1, 0), c[0])
		got, code := impl.DiskSync(d)
		wantAnswer(t, "DiskSync with a fuse", got, code, safeDisk(c[1], sectorOf(1002), sectorOf(1001)), impl.DiskWell)
	}
}

func TestFusesAreSet(t *testing.T) {
	for _, c := range rightDisks() {
		for _, n := range []int{-1, 0, 1, 2, 600, math.MaxInt - 1, math.MaxInt} {
			got, code := impl.DiskFuse(c.d, n)
			wantAnswer(t, "DiskFuse of "+c.name, got, code, withFuse(c.d, n), impl.DiskWell)
		}
		for _, n := range wrongFuses() {
			got, code := impl.DiskFuse(c.d, n)
			wantAnswer(t, "DiskFuse below -1 of "+c.name, got, code, impl.Disk{}, impl.DiskBad)
		}
	}
}

func TestAFuseDoesNotRaiseADisk(t *testing.T) {
	for _, n := range []int{-1, 0, 1, 5} {
		d, code := impl.DiskFuse(downed(withFuse(waitingDisk(2, 1), 0)), n)
		if code != impl.DiskWell || !d.Down || d.Fuse != n {
			t.Errorf("DiskFuse %d, Down: code %d, Down %t, Fuse %d", n, code, d.Down, d.Fuse)
		}
		got, code := impl.DiskWrite(d, 0, sectorOf(1))
		wantAnswer(t, "DiskWrite, Down, with a new fuse", got, code, d, impl.DiskDown)
		got, code = impl.DiskSync(d)
		wantAnswer(t, "DiskSync, Down, with a new fuse", got, code, d, impl.DiskDown)
	}
}

// callDisk makes one call that a fuse counts: a sync each third time, else a write.
func callDisk(d impl.Disk, i int) (impl.Disk, int) {
	if i%3 == 2 {
		return impl.DiskSync(d)
	}
	return impl.DiskWrite(d, i%len(d.Sectors), sectorOf(i))
}

func TestAsManyCallsAsTheFuseSays(t *testing.T) {
	for _, fuse := range []int{0, 1, 2, 3, 4, 5, 9, 40} {
		d, _ := impl.DiskFuse(fullDisk(4), fuse)
		for i := range fuse {
			var code int
			if d, code = callDisk(d, i); code != impl.DiskWell || d.Down || d.Fuse != fuse-i-1 {
				t.Fatalf("Fuse %d, call %d: code %d, Down %t, Fuse %d", fuse, i, code, d.Down, d.Fuse)
			}
		}
		for i := range 3 {
			ahead := cloneDisk(d)
			got, code := callDisk(d, i)
			wantAnswer(t, "a call behind the last", got, code, downed(ahead), impl.DiskDown)
			d = got
		}
	}
}

func TestAnEndlessFuse(t *testing.T) {
	d := fullDisk(4)
	for i := range 2000 {
		var code int
		if d, code = callDisk(d, i); code != impl.DiskWell || d.Fuse != -1 || d.Down {
			t.Fatalf("call %d: code %d, Fuse %d, Down %t", i, code, d.Fuse, d.Down)
		}
	}
}

func TestRefusedCallsTakeNothingFromTheFuse(t *testing.T) {
	d := withFuse(crowdedDisk(3, impl.MaxWaiting), 1)
	ahead := cloneDisk(d)
	for range 5 {
		impl.DiskWrite(d, 3, sectorOf(1))
		impl.DiskWrite(d, 0, nil)
		d, _ = impl.DiskWrite(d, 0, sectorOf(1))
		impl.DiskRead(d, 0)
		impl.DiskRead(d, -1)
		impl.DiskFuse(d, -2)
		impl.DiskFuse(d, 7)
	}
	wantDisk(t, "behind refused calls", d, ahead)
	d, code := impl.DiskSync(d)
	if code != impl.DiskWell || d.Fuse != 0 || d.Down {
		t.Errorf("the one call of the fuse: code %d, Fuse %d, Down %t", code, d.Fuse, d.Down)
	}
	_, code = impl.DiskSync(d)
	if code != impl.DiskDown {
		t.Errorf("the call behind it: code %d", code)
	}
}
