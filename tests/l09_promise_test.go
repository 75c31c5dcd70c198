package tests

import (
	"slices"
	"testing"

	"loop.example/g00252/impl"
)

// deadCount is how often something was dead, and how often it was visible to the one whose own it is.
type deadCount struct {
	dead int
	own  int
}

// check fails where something is dead by the horizon and visible to one of them whose own it is not.
func (c *deadCount) check(t *testing.T, l []impl.Snap, says []int, next int, numbers []int) {
	t.Helper()
	horizon := impl.Horizon(l, next)
	if horizon < 1 {
		t.Fatalf("no horizon of %d snapshots and %d", len(l), next)
	}
	for _, xmin := range numbers {
		for _, xmax := range numbers {
			if !impl.Dead(says, xmin, xmax, horizon) {
				continue
			}
			c.dead++
			for _, s := range l {
				if !impl.Visible(s, says, xmin, xmax) {
					continue
				}
				if s.Self != xmin {
					t.Fatalf("%d, %d is dead by %d and visible to %v (%v)", xmin, xmax, horizon, s, says)
				}
				c.own++
			}
		}
	}
}

// wantSome fails where nothing was dead, or nothing was visible to its own, so that nothing was asked.
func (c *deadCount) wantSome(t *testing.T) {
	t.Helper()
	if c.dead == 0 || c.own == 0 {
		t.Errorf("dead: %d, visible to its own: %d", c.dead, c.own)
	}
}

// allSnaps are all that there are of a Self of at most most.
func allSnaps(most int) []impl.Snap {
	var all []impl.Snap
	for self := 1; self <= most; self++ {
		for bits := range 1 << (self - 1) {
			s := impl.Snap{Self: self}
			for xid := 1; xid < self; xid++ {
				if bits>>(xid-1)&1 == 1 {
					s.Running = append(s.Running, xid)
				}
			}
			all = append(all, s)
		}
	}
	return all
}

// allLists are all lists of n statuses, the place 0 being 0.
func allLists(n int) [][]int {
	lists := [][]int{{0}}
	for range n - 1 {
		var longer [][]int
		for _, l := range lists {
			for _, status := range threeStatuses() {
				longer = append(longer, append(slices.Clone(l), status))
			}
		}
		lists = longer
	}
	return lists
}

func TestDeadIsVisibleToNoneOfAllSmallSnapshots(t *testing.T) {
	var c deadCount
	snaps := allSnaps(3)
	lists := [][]impl.Snap{nil}
	for _, a := range snaps {
		lists = append(lists, []impl.Snap{a})
		for _, b := range snaps {
			lists = append(lists, []impl.Snap{a, b})
		}
	}
	for _, says := range allLists(4) {
		for _, l := range lists {
			for next := 1; next <= 4; next++ {
				c.check(t, l, says, next, upTo(-1, 4))
			}
		}
	}
	c.wantSome(t)
}

func TestDeadIsVisibleToNoneOfOneSnapshot(t *testing.T) {
	var c deadCount
	for _, says := range allLists(5) {
		for _, s := range allSnaps(5) {
			c.check(t, []impl.Snap{s}, says, 6, upTo(0, 6))
		}
	}
	c.wantSome(t)
}

func TestDeadIsVisibleToNoneOfManySnapshots(t *testing.T) {
	var c deadCount
	for seed := range uint64(250) {
		most := []int{6, 12, 25}[seed%3]
		l := someSnaps(int(seed)%7, most, seed)
		says := someSays(int(seed*11)%(most+3), seed+1)
		c.check(t, l, says, int(seed*5)%(lastXid+1)+1, upTo(-1, most+2))
	}
	c.wantSome(t)
}

func TestDeadIsVisibleToNoneUpToTheLastNumber(t *testing.T) {
	var c deadCount
	for seed := range uint64(6) {
		var l []impl.Snap
		for i, x := range someBits(5, seed) {
			self := lastXid - i*int(x%30)
			l = append(l, snapOf(self, upTo(self-int(x>>32%40), self-1)...))
		}
		says := someSays(mostStatuses, seed)
		numbers := append(upTo(0, 3), upTo(lastXid-60, lastXid+1)...)
		for _, s := range l {
			numbers = append(numbers, s.Self)
		}
		c.check(t, l, says, lastXid+1, numbers)
	}
	c.wantSome(t)
}

// Where all are as they are in a store: each begins while others run, and takes what it sees.
func TestDeadIsVisibleToNoneAsTransactionsComeAndGo(t *testing.T) {
	var c deadCount
	var open []impl.Snap
	says := []int{0}
	for _, x := range someBits(300, 77) {
		if at := int(x >> 32 % 5); at < len(open) {
			says, _ = impl.StatusSet(says, open[at].Self, int(x%2)+1)
			open = slices.Delete(slices.Clone(open), at, at+1)
		} else if len(says) < 40 {
			s := impl.Snap{Self: len(says)}
			for _, other := range open {
				s.Running = append(s.Running, other.Self)
			}
			open, says = append(slices.Clone(open), s), append(says, running)
		}
		c.check(t, open, says, len(says), upTo(0, len(says)))
	}
	if c.dead == 0 || c.own != 0 {
		t.Errorf("dead: %d, visible to its own that still runs: %d", c.dead, c.own)
	}
}
