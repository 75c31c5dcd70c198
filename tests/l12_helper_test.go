package tests

import (
	"math"
	"slices"
	"testing"

	"loop.example/g00252/impl"
)

// mostWaits is chapter 12's limit as the document names it, in numbers.
const mostWaits = 64

// waitsOf takes two numbers a wait: who, and for whom.
func waitsOf(numbers ...int) []impl.Wait {
	var l []impl.Wait
	for i := 0; i+1 < len(numbers); i += 2 {
		l = append(l, impl.Wait{Who: numbers[i], For: numbers[i+1]})
	}
	return l
}

// withWait is the list with one more wait behind it, in memory of its own.
func withWait(l []impl.Wait, who int, holder int) []impl.Wait {
	return append(slices.Clip(l), impl.Wait{Who: who, For: holder})
}

// rowOf are waits each for the next one: of n numbers from first on, the last of them for first + n.
func rowOf(first int, n int) []impl.Wait {
	var l []impl.Wait
	for who := first; who < first+n; who++ {
		l = append(l, impl.Wait{Who: who, For: who + 1})
	}
	return l
}

// ringOf are waits of each of these for the next one, and of the last one for the first.
func ringOf(numbers ...int) []impl.Wait {
	var l []impl.Wait
	for i, who := range numbers {
		l = append(l, impl.Wait{Who: who, For: numbers[(i+1)%len(numbers)]})
	}
	return l
}

// crowdOf are the waits of n numbers from 1 on, all for one holder.
func crowdOf(n int, holder int) []impl.Wait {
	var l []impl.Wait
	for who := 1; who <= n; who++ {
		l = append(l, impl.Wait{Who: who, For: holder})
	}
	return l
}

// loners are n numbers from 1 on of which each waits for itself.
func loners(n int) []impl.Wait {
	var l []impl.Wait
	for who := 1; who <= n; who++ {
		l = append(l, impl.Wait{Who: who, For: who})
	}
	return l
}

// inOrder are the same waits, the one at each of these places after the other.
func inOrder(l []impl.Wait, places []int) []impl.Wait {
	var after []impl.Wait
	for _, place := range places {
		after = append(after, l[place])
	}
	return after
}

// fromOn is the same ring as one of those that stand in it sees it.
func fromOn(ring []int, at int) []int {
	return slices.Concat(ring[at:], ring[:at])
}

// farNumbers are numbers at which one that is counted, or kept in fewer bits, would be taken for another.
func farNumbers() []int {
	return []int{math.MinInt, math.MinInt + 1, -1 << 32, -1<<31 - 1, -mostWaits, -2, -1, 0, 1, 2, mostWaits, mostWaits + 1, 1 << 31, 1 << 32, 1<<32 + 1, math.MaxInt - 1, math.MaxInt}
}

// plainWaitsOk is what the document says of WaitsOk, word by word.
func plainWaitsOk(l []impl.Wait) bool {
	if len(l) > mostWaits {
		return false
	}
	for i, a := range l {
		for _, b := range l[:i] {
			if a.Who == b.Who {
				return false
			}
		}
	}
	return true
}

// plainNext looks through a list, be it WaitsOk or just one too long.
func plainNext(l []impl.Wait, who int) (int, bool) {
	for _, w := range l {
		if w.Who == who {
			return w.For, true
		}
	}
	return 0, false
}

func plainWaitNext(l []impl.Wait, who int) (int, bool) {
	if !plainWaitsOk(l) {
		return 0, false
	}
	return plainNext(l, who)
}

// plainRing goes no further than there are waits, as a ring has no more.
func plainRing(l []impl.Wait, who int) []int {
	ring := []int{who}
	for range l {
		next, waits := plainNext(l, ring[len(ring)-1])
		switch {
		case !waits:
			return nil
		case next == who:
			return ring
		}
		ring = append(ring, next)
	}
	return nil
}

func plainWaitRing(l []impl.Wait, who int) []int {
	if !plainWaitsOk(l) {
		return nil
	}
	return plainRing(l, who)
}

// plainWaitCloses takes the wait up, whatever the count of all is then, and looks for the ring.
func plainWaitCloses(l []impl.Wait, who int, holder int) bool {
	if _, waits := plainNext(l, who); waits || !plainWaitsOk(l) {
		return false
	}
	return len(plainRing(withWait(l, who, holder), who)) > 0
}

func plainWaitFree(l []impl.Wait, holder int) ([]impl.Wait, []int) {
	if !plainWaitsOk(l) {
		return nil, nil
	}
	var freed []int
	left := slices.DeleteFunc(slices.Clone(l), func(w impl.Wait) bool { return w.For == holder })
	for _, w := range l {
		if w.For == holder {
			freed = append(freed, w.Who)
		}
	}
	return left, freed
}

// namedWaits is a list of waits of a test's table.
type namedWaits struct {
	name string
	l    []impl.Wait
}

func rightWaits() []namedWaits {
	return []namedWaits{
		{"no list", nil},
		{"an empty list", []impl.Wait{}},
		{"one", waitsOf(1, 2)},
		{"one, all zero", waitsOf(0, 0)},
		{"one that waits for itself", waitsOf(7, 7)},
		{"one below 0", waitsOf(-3, -4)},
		{"the least and the greatest", waitsOf(math.MinInt, math.MaxInt, math.MaxInt, math.MinInt)},
		{"the greatest for the least", waitsOf(math.MaxInt, math.MinInt)},
		{"two beside each other", waitsOf(1, 2, 3, 4)},
		{"two for one", waitsOf(1, 9, 2, 9)},
		{"two for one that waits itself", waitsOf(1, 9, 9, 5, 2, 9)},
		{"two for each other", waitsOf(1, 2, 2, 1)},
		{"numbers apart in their high bits alone", waitsOf(1, 1<<32+1, 1<<32+1, 1<<33+1, 1<<33+1, 5)},
		{"a number and its opposite", waitsOf(4, -4, -4, 4)},
		{"two rings", slices.Concat(ringOf(1, 2, 3), ringOf(4, 5))},
		{"a way into a ring", slices.Concat(rowOf(1, 3), ringOf(4, 5, 6))},
		{"far numbers in a ring", ringOf(farNumbers()...)},
		{"a row of one less than MaxWaits", rowOf(1, mostWaits-1)},
		{"a row of MaxWaits", rowOf(1, mostWaits)},
		{"a row of MaxWaits around 0", rowOf(-30, mostWaits)},
		{"a ring of MaxWaits", ringOf(upTo(1, mostWaits)...)},
		{"MaxWaits for one", crowdOf(mostWaits, 99)},
		{"MaxWaits for one of them", crowdOf(mostWaits, 20)},
		{"MaxWaits for themselves", loners(mostWaits)},
	}
}

// wrongWaits are not WaitsOk, each for one reason alone, but for the last two.
func wrongWaits() []namedWaits {
	return []namedWaits{
		{"one wait twice", waitsOf(1, 2, 1, 2)},
		{"one Who next to itself", waitsOf(1, 2, 1, 3)},
		{"one Who next to itself, others ahead", waitsOf(5, 6, 7, 5, 1, 2, 1, 3)},
		{"one Who next to itself, others behind", waitsOf(1, 2, 1, 3, 5, 6, 7, 5)},
		{"one Who first and last", waitsOf(1, 2, 2, 3, 3, 4, 1, 5)},
		{"one Who first and last of a ring", waitsOf(1, 2, 2, 3, 3, 1, 1, 3)},
		{"one Who three times", waitsOf(4, 1, 4, 2, 4, 3)},
		{"one Who twice, for itself", waitsOf(3, 3, 3, 3)},
		{"two of them twice", waitsOf(1, 2, 2, 1, 1, 2, 2, 1)},
		{"0 twice", waitsOf(0, 1, 0, 2)},
		{"0 twice, all zero", make([]impl.Wait, 2)},
		{"one below 0 twice", waitsOf(-1, 5, 2, 6, -1, 7)},
		{"the least twice", waitsOf(math.MinInt, 1, 2, 3, math.MinInt, 1)},
		{"the greatest twice", waitsOf(math.MaxInt, 1, 2, 3, math.MaxInt, 1)},
		{"MaxWaits, the first and the last alike", withWait(rowOf(1, mostWaits-1), 1, 99)},
		{"MaxWaits, the last two alike", withWait(rowOf(1, mostWaits-1), mostWaits-1, 99)},
		{"a row of one more than MaxWaits", rowOf(1, mostWaits+1)},
		{"a ring of one more than MaxWaits", ringOf(upTo(1, mostWaits+1)...)},
		{"one more than MaxWaits for one", crowdOf(mostWaits+1, 99)},
		{"one more than MaxWaits for themselves", loners(mostWaits + 1)},
		{"far too many", rowOf(-500, 1000)},
		{"far too many, all alike", make([]impl.Wait, 5000)},
		{"one more than MaxWaits, two alike", withWait(rowOf(1, mostWaits), 1, 2)},
	}
}

// allNumbers are those of all waits, each once, and some that stand in none of most lists.
func allNumbers(l []impl.Wait) []int {
	numbers := append(farNumbers(), 3, 4, 5, 9, 20, 99, 12345)
	for _, w := range l[:min(len(l), 2*mostWaits)] {
		numbers = append(numbers, w.Who, w.For)
	}
	slices.Sort(numbers)
	return slices.Compact(numbers)
}

// someWaits are waits of some of the numbers from 0 to most, in no order in particular; the seed fixes which.
func someWaits(most int, seed uint64) []impl.Wait {
	var l []impl.Wait
	for who, x := range someBits(most+1, seed) {
		if x%8 > seed%3 && len(l) < mostWaits {
			at := int(x >> 40 % uint64(len(l)+1))
			l = slices.Insert(l, at, impl.Wait{Who: who, For: int(x >> 12 % uint64(most+1))})
		}
	}
	return l
}

// allWaits are all lists by which each of the numbers from 0 to n - 1 waits for one of them or for nobody.
func allWaits(n int) [][]impl.Wait {
	lists := [][]impl.Wait{nil}
	for who := range n {
		all := slices.Clone(lists)
		for _, l := range lists {
			for holder := range n {
				all = append(all, withWait(l, who, holder))
			}
		}
		lists = all
	}
	return lists
}

func wantWaitsOk(t *testing.T, name string, l []impl.Wait, want bool) {
	t.Helper()
	if got := impl.WaitsOk(l); got != want {
		t.Errorf("%s: WaitsOk of %d waits is %t, want %t (%v)", name, len(l), got, want, l)
	}
}

func wantNext(t *testing.T, name string, l []impl.Wait, who int, want int) {
	t.Helper()
	if got, ok := impl.WaitNext(l, who); !ok || got != want {
		t.Errorf("%s: WaitNext of %d is %d, %t, want %d", name, who, got, ok, want)
	}
}

// wantNoNext looks at the false, and that 0 stands beside it.
func wantNoNext(t *testing.T, name string, l []impl.Wait, who int) {
	t.Helper()
	if got, ok := impl.WaitNext(l, who); ok || got != 0 {
		t.Errorf("%s: WaitNext of %d is %d, %t, want 0 and false", name, who, got, ok)
	}
}

func wantRing(t *testing.T, name string, l []impl.Wait, who int, want ...int) {
	t.Helper()
	if got := impl.WaitRing(l, who); !slices.Equal(got, want) {
		t.Errorf("%s: WaitRing of %d is %v, want %v", name, who, got, want)
	}
}

func wantCloses(t *testing.T, name string, l []impl.Wait, who int, holder int, want bool) {
	t.Helper()
	if got := impl.WaitCloses(l, who, holder); got != want {
		t.Errorf("%s: WaitCloses of %d for %d is %t, want %t (%v)", name, who, holder, got, want, l)
	}
}

func wantFree(t *testing.T, name string, l []impl.Wait, holder int, left []impl.Wait, freed []int) {
	t.Helper()
	gotLeft, gotFreed := impl.WaitFree(l, holder)
	if !slices.Equal(gotLeft, left) || !slices.Equal(gotFreed, freed) {
		t.Errorf("%s: WaitFree of %d is %v, %v, want %v, %v", name, holder, gotLeft, gotFreed, left, freed)
	}
}
