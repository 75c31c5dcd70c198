package tests

import (
	"fmt"
	"slices"
	"testing"

	"loop.example/g00252/impl"
)

// wantNoRings fails where a ring is told of one of these, or by the plain reading of any that waits.
func wantNoRings(t *testing.T, name string, l []impl.Wait, numbers []int) {
	t.Helper()
	for _, who := range numbers {
		if got := impl.WaitRing(l, who); len(got) != 0 {
			t.Fatalf("%s: the ring %v stands in %v", name, got, l)
		}
	}
	for _, w := range l {
		if ring := plainRing(l, w.Who); len(ring) != 0 {
			t.Fatalf("%s: the ring %v stands in %v and is not told", name, ring, l)
		}
	}
}

// wantTheRing fails where not just this ring is told, of each that stands in it from its own view, and of no other.
func wantTheRing(t *testing.T, name string, l []impl.Wait, numbers []int, ring []int) {
	t.Helper()
	for _, who := range numbers {
		if at := slices.Index(ring, who); at >= 0 {
			wantRing(t, name, l, who, fromOn(ring, at)...)
		} else {
			wantRing(t, name, l, who)
		}
	}
}

// wantIsRing fails where this is no ring of l that begins with who: each waits for the next, the last for who.
func wantIsRing(t *testing.T, name string, l []impl.Wait, who int, ring []int) {
	t.Helper()
	if len(ring) == 0 || ring[0] != who {
		t.Fatalf("%s: no ring that begins with %d: %v", name, who, ring)
	}
	for i, one := range ring {
		if next, waits := plainNext(l, one); !waits || next != ring[(i+1)%len(ring)] {
			t.Fatalf("%s: %d does not wait for the next one of %v", name, one, ring)
		}
		if slices.Contains(ring[:i], one) {
			t.Fatalf("%s: %d stands twice in %v", name, one, ring)
		}
	}
}

// wantFreed fails where anybody waits for holder behind WaitFree, or where the others do not wait as they did.
func wantFreed(t *testing.T, name string, before []impl.Wait, holder int) []impl.Wait {
	t.Helper()
	left, freed := impl.WaitFree(before, holder)
	if len(left)+len(freed) != len(before) || !impl.WaitsOk(left) {
		t.Fatalf("%s: %v and %v are left of %v", name, left, freed, before)
	}
	for _, w := range before {
		next, waits := impl.WaitNext(left, w.Who)
		if w.For == holder && (waits || !slices.Contains(freed, w.Who)) {
			t.Fatalf("%s: %d still waits for %d", name, w.Who, holder)
		}
		if w.For != holder && (!waits || next != w.For) {
			t.Fatalf("%s: %d does not wait for %d any more", name, w.Who, w.For)
		}
	}
	again, nobody := impl.WaitFree(left, holder)
	if !slices.Equal(again, left) || len(nobody) != 0 {
		t.Fatalf("%s: somebody is freed again: %v", name, nobody)
	}
	return left
}

// waitCount is how often a wait was taken up, refused as one that closes a ring, and freed.
type waitCount struct {
	taken   int
	refused int
	long    int
	freed   int
}

// offer takes a wait up, unless it closes a ring; if it does, the ring is told where it is taken up all the same.
func (c *waitCount) offer(t *testing.T, l []impl.Wait, who int, holder int, numbers []int) []impl.Wait {
	t.Helper()
	name := fmt.Sprintf("%d for %d", who, holder)
	if _, waits := impl.WaitNext(l, who); waits || len(l) == mostWaits {
		return l
	}
	after := withWait(l, who, holder)
	if !impl.WaitCloses(l, who, holder) {
		c.taken++
		wantNoRings(t, name, after, numbers)
		return after
	}
	c.refused++
	ring := impl.WaitRing(after, who)
	c.long = max(c.long, len(ring))
	wantIsRing(t, name, after, who, ring)
	wantTheRing(t, name, after, numbers, ring)
	return l
}

// Offers of waits in no order in particular, and now and then a holder that ends.
func TestThereIsNoRingWhereNoneIsTakenUp(t *testing.T) {
	var c waitCount
	for seed := range uint64(60) {
		most := []int{1, 2, 4, 8, 20, 45, 80}[seed%7]
		numbers := upTo(-1, most)
		var l []impl.Wait
		for _, x := range someBits(3*most+40, seed+50) {
			who, holder := int(x>>10%uint64(most+1)), int(x>>30%uint64(most+1))
			if x>>50%12 == 0 {
				after := wantFreed(t, "a holder ends", l, holder)
				c.freed += len(l) - len(after)
				l = after
				wantNoRings(t, "a holder ended", l, numbers)
				continue
			}
			l = c.offer(t, l, who, holder, numbers)
		}
	}
	if c.taken < 500 || c.refused < 100 || c.freed < 50 || c.long < 8 {
		t.Errorf("not much was asked: %+v", c)
	}
}

// All orders in which three offer a wait each: for themselves, for one of the others, or for a fourth that waits for nobody.
func TestThereIsNoRingOverAllOrdersOfThree(t *testing.T) {
	var c waitCount
	numbers := upTo(0, 3)
	var offers func(l []impl.Wait, asked []int)
	offers = func(l []impl.Wait, asked []int) {
		for who := range 3 {
			if slices.Contains(asked, who) {
				continue
			}
			for holder := range 4 {
				offers(c.offer(t, l, who, holder, numbers), append(slices.Clip(asked), who))
			}
		}
	}
	offers(nil, nil)
	if c.taken < 100 || c.refused < 100 || c.long != 3 {
		t.Errorf("not much was asked: %+v", c)
	}
}

// All lists of waits among five: what is told of each is as the document says.
func TestWaitsOfAllListsAmongFive(t *testing.T) {
	const n = 5
	numbers := upTo(0, n)
	for _, l := range allWaits(n) {
		for _, who := range numbers {
			wantRing(t, "among five", l, who, plainWaitRing(l, who)...)
			for holder := range n {
				want := plainWaitCloses(l, who, holder)
				wantCloses(t, "among five", l, who, holder, want)
				if _, waits := plainNext(l, who); !waits && want {
					wantIsRing(t, "among five", withWait(l, who, holder), who, impl.WaitRing(withWait(l, who, holder), who))
				}
			}
		}
	}
}

func TestNobodyWaitsForWhoEnded(t *testing.T) {
	for _, l := range allWaits(4) {
		for holder := range 5 {
			wantFreed(t, "among four", l, holder)
		}
	}
	for _, of := range rightWaits() {
		for _, holder := range allNumbers(of.l) {
			wantFreed(t, of.name, of.l, holder)
		}
	}
}

// Rows are made in each order, up to MaxWaits in all; the wait that closes one tells the whole ring.
func TestALongRowIsClosed(t *testing.T) {
	for _, n := range []int{1, 2, 3, 17, mostWaits - 1, mostWaits} {
		for _, order := range ordersOf(n) {
			var c waitCount
			var l []impl.Wait
			numbers := upTo(0, n+1)
			for _, at := range order.at[:n-1] {
				w := ringOf(upTo(1, n)...)[at]
				l = c.offer(t, l, w.Who, w.For, numbers)
			}
			last := ringOf(upTo(1, n)...)[order.at[n-1]]
			wantCloses(t, order.name, l, last.Who, last.For, true)
			wantTheRing(t, order.name, withWait(l, last.Who, last.For), numbers, upTo(1, n))
			if l = c.offer(t, l, last.Who, last.For, numbers); len(l) != n-1 || c.refused != 1 || c.long != n {
				t.Errorf("%s: %d waits of %d, %+v", order.name, len(l), n, c)
			}
			l = c.offer(t, l, last.Who, 0, numbers)
			wantNoRings(t, order.name, l, numbers)
		}
	}
}

// Those that wait for one that ends go on one after the other, until nobody waits.
func TestAllWaitsEndWhereThereIsNoRing(t *testing.T) {
	for seed := range uint64(40) {
		var c waitCount
		var l []impl.Wait
		numbers := upTo(0, 30)
		for _, x := range someBits(80, seed+900) {
			l = c.offer(t, l, int(x>>10%31), int(x>>30%31), numbers)
		}
		var ends []int
		for _, who := range numbers {
			if _, waits := impl.WaitNext(l, who); !waits {
				ends = append(ends, who)
			}
		}
		for at := 0; at < len(ends); at++ {
			left, freed := impl.WaitFree(l, ends[at])
			l, ends = left, append(ends, freed...)
		}
		slices.Sort(ends)
		if len(l) != 0 || !slices.Equal(ends, numbers) {
			t.Fatalf("%v wait for ever, %v ended", l, ends)
		}
	}
}
