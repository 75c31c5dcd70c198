package tests

import (
	"math"
	"slices"
	"testing"

	"loop.example/g00252/impl"
)

// guardedNumbers is a copy of some numbers with marked room behind its length.
type guardedNumbers struct {
	l    []int
	want []int
}

func guardNumbers(l []int) guardedNumbers {
	all := append(slices.Clone(l), sameOf(500, gone)...)
	return guardedNumbers{l: all[:len(l)], want: slices.Clone(all)}
}

// check fails when the numbers or the room behind them are not as they were.
func (g guardedNumbers) check(t *testing.T, name string) {
	t.Helper()
	if !slices.Equal(g.l[:len(g.want)], g.want) {
		t.Errorf("%s: wrote into its list or behind it", name)
	}
}

// spoilNumbers changes every number, those of the room behind the length too.
func spoilNumbers(l []int) {
	l = l[:cap(l)]
	for i := range l {
		l[i] = ^l[i]
	}
}

// statusCall is one call that takes a list; what it answers is told as a list of numbers.
type statusCall struct {
	name string
	do   func(l []int) []int
}

func setCall(name string, xid int, status int) statusCall {
	return statusCall{name, func(l []int) []int {
		after, _ := impl.StatusSet(l, xid, status)
		return after
	}}
}

func settleCall(name string, n int) statusCall {
	return statusCall{name, func(l []int) []int { return impl.StatusSettle(l, n) }}
}

func statusCalls() []statusCall {
	return []statusCall{
		{"StatusOf", func(l []int) []int { return []int{impl.StatusOf(l, len(l)-1), impl.StatusOf(l, len(l))} }},
		setCall("StatusSet of the first", 1, gone),
		setCall("StatusSet in the middle", 5, done),
		setCall("StatusSet of the last", lastXid, running),
		setCall("StatusSet of nobody", 0, done),
		setCall("StatusSet past the last", lastXid+1, done),
		setCall("StatusSet to none of the three", 2, 3),
		settleCall("StatusSettle to none", 0),
		settleCall("StatusSettle to few", 4),
		settleCall("StatusSettle to all", mostStatuses),
		settleCall("StatusSettle to too many", mostStatuses+1),
		{"StatusBytes", func(l []int) []int {
			var numbers []int
			for _, x := range impl.StatusBytes(l) {
				numbers = append(numbers, int(x))
			}
			return numbers
		}},
	}
}

func memoryNumbers() [][]int {
	return [][]int{
		nil, {}, {0}, {9}, {0, 1, 2}, {7, 3, -1, 1}, someStatuses(8, 3), someNumbers(100, 4),
		someNumbers(lastXid, 5), someNumbers(mostStatuses, 6), someNumbers(mostStatuses+1, 7), someNumbers(700, 8),
	}
}

func TestStatusesLeaveTheirArguments(t *testing.T) {
	for _, l := range memoryNumbers() {
		for _, c := range statusCalls() {
			g := guardNumbers(l)
			got := c.do(g.l)
			g.check(t, c.name)
			if plain := c.do(slices.Clone(l)); !slices.Equal(got, plain) {
				t.Errorf("%s: room behind %d numbers shows", c.name, len(l))
			}
		}
	}
}

func TestStatusAnswersAreNewMemory(t *testing.T) {
	for _, l := range memoryNumbers() {
		for _, c := range statusCalls() {
			g := guardNumbers(l)
			got := c.do(g.l)
			spoilNumbers(got)
			g.check(t, c.name+", its answer spoilt")

			got = c.do(g.l)
			want := slices.Clone(got)
			spoilNumbers(g.l)
			if !slices.Equal(got, want) {
				t.Errorf("%s: its answer changes with its argument", c.name)
			}
		}
	}
}

func TestStatusBytesAreNewMemory(t *testing.T) {
	for _, n := range someLengths() {
		l := someStatuses(n, 17)
		first := impl.StatusBytes(l)
		spoil(first)
		wantStatusBytes(t, "asked again", l, plainStatusBytes(l))

		g := guard(impl.StatusBytes(l))
		got, ok := impl.StatusRead(g.b, n)
		g.check(t, "StatusRead")
		spoil(g.b)
		if !ok || !slices.Equal(got, l) {
			t.Errorf("what was read of %d numbers changes with the bytes", n)
		}
		spoilNumbers(got)
		wantStatuses(t, "read again", impl.StatusBytes(l), n, l)
	}
	for _, n := range noLengths() {
		g := guard(make([]byte, 101))
		impl.StatusRead(g.b, n)
		g.check(t, "StatusRead that is refused")
	}
}

func TestStatusesNeverPanic(t *testing.T) {
	numbers := append(append(noXids(), noLengths()...), 1, 2, 3, 4, 5, lastXid, mostStatuses, math.MaxInt32, math.MinInt32)
	for _, l := range memoryNumbers() {
		for _, n := range numbers {
			quiet(t, "StatusOf", func() { impl.StatusOf(l, n) })
			quiet(t, "StatusSettle", func() { impl.StatusSettle(l, n) })
			for _, status := range append(threeStatuses(), noStatuses()...) {
				quiet(t, "StatusSet", func() { impl.StatusSet(l, n, status) })
			}
		}
		quiet(t, "StatusBytes", func() { impl.StatusBytes(l) })
	}
	for _, b := range [][]byte{nil, {}, {0}, {255}, someBytes(100, 1), someBytes(101, 2), someBytes(102, 3), someBytes(70000, 4)} {
		for _, n := range numbers {
			quiet(t, "StatusRead", func() { impl.StatusRead(b, n) })
		}
	}
}
