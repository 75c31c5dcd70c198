package tests

import (
	"math"
	"slices"
	"testing"

	"loop.example/g00252/impl"
)

// guardedWaits is a copy of some waits with marked room behind its length.
type guardedWaits struct {
	l    []impl.Wait
	want []impl.Wait
}

// What lies behind would make another list of it: more rings, more waits for each, two with one Who.
func guardWaits(l []impl.Wait) guardedWaits {
	all := slices.Concat(l, waitsOf(1, 1, 1, 2, 2, 1, 0, 0, 99, 1, 12345, 12345), l[:min(len(l), 5)])
	return guardedWaits{l: all[:len(l)], want: slices.Clone(all)}
}

// check fails when the waits or the room behind them are not as they were.
func (g guardedWaits) check(t *testing.T, name string) {
	t.Helper()
	if !slices.Equal(g.l[:len(g.want)], g.want) {
		t.Errorf("%s: wrote into its waits or behind them", name)
	}
}

// spoilWaits changes every wait, those of the room behind the length too.
func spoilWaits(l []impl.Wait) {
	l = l[:cap(l)]
	for i, w := range l {
		l[i] = impl.Wait{Who: ^w.Who, For: ^w.For}
	}
}

// waitAnswer is what a call of the chapter answers, whichever it is.
type waitAnswer struct {
	waits   []impl.Wait
	numbers []int
	n       int
	ok      bool
}

func (a waitAnswer) clone() waitAnswer {
	a.waits, a.numbers = slices.Clone(a.waits), slices.Clone(a.numbers)
	return a
}

func (a waitAnswer) same(b waitAnswer) bool {
	return slices.Equal(a.waits, b.waits) && slices.Equal(a.numbers, b.numbers) && a.n == b.n && a.ok == b.ok
}

// wantApart writes into one list of an answer, and looks whether the other one changes.
func (a waitAnswer) wantApart(t *testing.T, name string) {
	t.Helper()
	want := a.clone()
	spoilWaits(a.waits)
	if !slices.Equal(a.numbers, want.numbers) {
		t.Errorf("%s: two lists of the answer share memory", name)
	}
	copy(a.waits, want.waits)
	spoilNumbers(a.numbers)
	if !slices.Equal(a.waits, want.waits) {
		t.Errorf("%s: two lists of the answer share memory", name)
	}
}

// waitCall is one call that takes waits and two numbers.
type waitCall struct {
	name string
	do   func(l []impl.Wait, who int, holder int) waitAnswer
}

func waitCalls() []waitCall {
	return []waitCall{
		{"WaitsOk", func(l []impl.Wait, who int, holder int) waitAnswer {
			return waitAnswer{ok: impl.WaitsOk(l)}
		}},
		{"WaitNext", func(l []impl.Wait, who int, holder int) waitAnswer {
			n, ok := impl.WaitNext(l, who)
			return waitAnswer{n: n, ok: ok}
		}},
		{"WaitRing", func(l []impl.Wait, who int, holder int) waitAnswer {
			return waitAnswer{numbers: impl.WaitRing(l, who)}
		}},
		{"WaitCloses", func(l []impl.Wait, who int, holder int) waitAnswer {
			return waitAnswer{ok: impl.WaitCloses(l, who, holder)}
		}},
		{"WaitFree", func(l []impl.Wait, who int, holder int) waitAnswer {
			waits, numbers := impl.WaitFree(l, holder)
			return waitAnswer{waits: waits, numbers: numbers}
		}},
	}
}

// memoryWaits are right and wrong lists, and some in no order in particular.
func memoryWaits() []namedWaits {
	l := slices.Concat(rightWaits(), wrongWaits())
	for seed := range uint64(10) {
		l = append(l, namedWaits{"some waits", someWaits(12, seed+70)})
	}
	return l
}

// askedOf are numbers to ask such a list for: some that stand in it, and some that do not.
func askedOf(l []impl.Wait) []int {
	numbers := []int{0, 1, 2, 99, 12345, -7}
	for i, w := range l[:min(len(l), mostWaits+1)] {
		if i < 3 || i > 60 {
			numbers = append(numbers, w.Who, w.For)
		}
	}
	return numbers
}

func TestWaitsLeaveTheirArgumentsAndShareNothing(t *testing.T) {
	for _, of := range memoryWaits() {
		asked := askedOf(of.l)
		for i, who := range asked {
			for _, holder := range []int{who, asked[(i+1)%len(asked)], asked[(i*3+2)%len(asked)]} {
				for _, c := range waitCalls() {
					name := c.name + ", " + of.name
					g := guardWaits(of.l)
					got := c.do(g.l, who, holder)
					g.check(t, name)
					plain := c.do(slices.Clone(of.l), who, holder)
					if !got.same(plain) {
						t.Errorf("%s: room behind the waits shows", name)
					}
					got.wantApart(t, name)
					g.check(t, name+", its answer spoilt")

					got = c.do(g.l, who, holder)
					spoilWaits(g.l)
					if !got.same(plain) {
						t.Errorf("%s: its answer changes with its argument", name)
					}
				}
			}
		}
	}
}

// What a call answers is the same however often it is asked, and nothing is left of it for the next one.
func TestWaitsKeepNothing(t *testing.T) {
	l := slices.Concat(ringOf(4, 2, 9), waitsOf(7, 4, 8, 4, 1, 3))
	for range 20 {
		wantRing(t, "a ring", l, 2, 2, 9, 4)
		wantRing(t, "a ring, again", l, 2, 2, 9, 4)
		wantFree(t, "a ring", l, 4, waitsOf(4, 2, 2, 9, 1, 3), []int{9, 7, 8})
		wantCloses(t, "a row", l, 3, 1, true)
		wantCloses(t, "a row, again", l, 3, 1, true)
		wantNext(t, "a ring", l, 9, 4)
		l[2].For = 3
		wantRing(t, "the ring is open", l, 2)
		wantCloses(t, "the ring is open", l, 3, 7, true)
		wantFree(t, "the ring is open", l, 3, waitsOf(4, 2, 2, 9, 7, 4, 8, 4), []int{9, 1})
		wantNext(t, "the ring is open", l, 9, 3)
		l[2].Who = 4
		wantWaitsOk(t, "two alike", l, false)
		wantNoNext(t, "two alike", l, 7)
		l[2] = impl.Wait{Who: 9, For: 4}
	}
}

func TestWaitsNeverPanic(t *testing.T) {
	lists := append(memoryWaits(), namedWaits{"very many", rowOf(math.MaxInt-3, 100000)}, namedWaits{"very many, all zero", make([]impl.Wait, 1000000)})
	for _, of := range lists {
		for _, who := range farNumbers() {
			for _, holder := range farNumbers() {
				for _, c := range waitCalls() {
					quiet(t, c.name+", "+of.name, func() { c.do(of.l, who, holder) })
				}
			}
		}
	}
}
