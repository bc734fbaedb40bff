package timer_test

import (
	"math"
	"math/rand"
	"slices"
	"testing"

	"weirkeep/api"
	"weirkeep/timer"
)

// parted is List in two: what a question is true of, and the rest.
func parted(list []timer.Alarm, is func(a timer.Alarm) bool) (those, rest []timer.Alarm) {
	for _, a := range list {
		if is(a) {
			those = append(those, a)
		} else {
			rest = append(rest, a)
		}
	}
	return those, rest
}

// saidDue is what Due tells of List, and what it leaves, as the document says them.
func saidDue(list []timer.Alarm, node, now int) (due, left []timer.Alarm) {
	return parted(list, func(a timer.Alarm) bool { return a.Node == node && a.At <= now })
}

// saidClear is how many alarms Clear tells, and what it leaves.
func saidClear(list []timer.Alarm, node int) (int, []timer.Alarm) {
	those, rest := parted(list, func(a timer.Alarm) bool { return a.Node == node })
	return len(those), rest
}

// saidNext is what Next tells.
func saidNext(list []timer.Alarm, node int) (timer.Alarm, bool) {
	for _, a := range list {
		if a.Node == node {
			return a, true
		}
	}
	return timer.Alarm{}, false
}

func wantNext(t *testing.T, x *timer.Timers, node int, want timer.Alarm, is bool) {
	t.Helper()
	if got, ok := x.Next(node); got != want || ok != is {
		t.Fatalf("Next(%d): %d, %t, want %d, %t", node, got, ok, want, is)
	}
}

func wantDue(t *testing.T, x *timer.Timers, node, now int, want []timer.Alarm) {
	t.Helper()
	if got := x.Due(node, now); !slices.Equal(got, want) {
		t.Fatalf("Due(%d, %d): %d, want %d", node, now, got, want)
	}
}

func wantClear(t *testing.T, x *timer.Timers, node, want int) {
	t.Helper()
	if got := x.Clear(node); got != want {
		t.Fatalf("Clear(%d): %d, want %d", node, got, want)
	}
}

// some are alarms of the nodes 0, 1, 3 and 7, in the order of List.
func some() []timer.Alarm {
	return []timer.Alarm{
		alarm(0, 0, 0), alarm(0, 0, 255), alarm(0, 7, 3), alarm(0, 1<<40, 1), alarm(0, 1<<40, 2),
		alarm(1, 7, 0),
		alarm(3, 5, 9), alarm(3, 6, 8), alarm(3, 6, 10), alarm(3, 7, 1), alarm(3, 8, 0),
		alarm(7, 1<<40-1, 5), alarm(7, 1<<40, 4),
	}
}

// nows are times at which a node asks: at and beside the edges, and far outside of what Set takes.
func nows() []int {
	return []int{math.MinInt, -1 << 40, -1, 0, 1, 4, 5, 6, 7, 8, 9, 1 << 32, 1<<40 - 2, 1<<40 - 1, 1 << 40, 1<<40 + 1, 1 << 41, math.MaxInt}
}

// The document's example.
func TestExample(t *testing.T) {
	x := timersOf(t, alarm(0, 5, 2), alarm(0, 3, 9), alarm(0, 6, 1), alarm(1, 1, 1))
	wantDue(t, x, 0, 5, []timer.Alarm{alarm(0, 3, 9), alarm(0, 5, 2)})
	wantList(t, "the example", x, []timer.Alarm{alarm(0, 6, 1), alarm(1, 1, 1)})
}

// P6.2: the first one of each node, whatever was set first; nothing of nodes that have none.
func TestNextByHand(t *testing.T) {
	none := timer.Alarm{}
	random := rand.New(rand.NewSource(2))
	for range 30 {
		x := timersOf(t, shuffled(random, some())...)
		wantNext(t, x, 0, alarm(0, 0, 0), true)
		wantNext(t, x, 1, alarm(1, 7, 0), true)
		wantNext(t, x, 2, none, false)
		wantNext(t, x, 3, alarm(3, 5, 9), true)
		wantNext(t, x, 4, none, false)
		wantNext(t, x, 5, none, false)
		wantNext(t, x, 6, none, false)
		wantNext(t, x, 7, alarm(7, 1<<40-1, 5), true)
		wantList(t, "asked", x, some())
	}
}

// P6.2: the time stands ahead of the tag, of equal times the lower tag is first; of the zero alarm it is true.
func TestNextOrder(t *testing.T) {
	x := timersOf(t, alarm(0, 9, 0))
	for _, a := range []timer.Alarm{alarm(0, 8, 200), alarm(0, 8, 100), alarm(0, 7, 255), alarm(0, 7, 254), alarm(0, 0, 1), {}} {
		wantSet(t, x, a, api.OK)
		wantNext(t, x, 0, a, true)
		wantNext(t, x, 0, a, true)
	}
}

// P6.2: Next goes with what is set, set anew, stopped, due and cleared.
func TestNextBehindCalls(t *testing.T) {
	x := timersOf(t, some()...)
	wantSet(t, x, alarm(3, 50, 9), api.OK)
	wantNext(t, x, 3, alarm(3, 6, 8), true)
	wantStop(t, x, 3, 8, api.OK)
	wantNext(t, x, 3, alarm(3, 6, 10), true)
	wantDue(t, x, 3, 7, []timer.Alarm{alarm(3, 6, 10), alarm(3, 7, 1)})
	wantNext(t, x, 3, alarm(3, 8, 0), true)
	wantClear(t, x, 3, 2)
	wantNext(t, x, 3, timer.Alarm{}, false)
	wantNext(t, x, 1, alarm(1, 7, 0), true)
	wantStop(t, x, 1, 0, api.OK)
	wantNext(t, x, 1, timer.Alarm{}, false)
}

// P6.2: of what is no node nothing is next, nothing is due, nothing is cleared, and nothing changes.
func TestNoNode(t *testing.T) {
	for _, length := range lengths() {
		alarms := numberedUpTo(length)
		x, want := timersOf(t, alarms...), ordered(alarms)
		for _, node := range noNodes() {
			wantNext(t, x, node, timer.Alarm{}, false)
			for _, now := range nows() {
				wantDue(t, x, node, now, nil)
			}
			wantClear(t, x, node, 0)
			wantList(t, "no node", x, want)
		}
	}
}

// P6.2: an alarm is not due just ahead of its time, but at it, and behind it.
func TestDueAtTheEdge(t *testing.T) {
	for node := range 8 {
		for _, at := range []int{0, 1, 2, 1000, 1 << 32, 1<<40 - 1, 1 << 40} {
			a := alarm(node, at, 33)
			for _, now := range []int{math.MinInt, -1, at - 2, at - 1} {
				if now >= at {
					continue
				}
				x := timersOf(t, a)
				wantDue(t, x, node, now, nil)
				wantList(t, "ahead", x, []timer.Alarm{a})
			}
			for _, now := range []int{at, at + 1, at + 2, 1 << 40, 1<<40 + 1, math.MaxInt} {
				x := timersOf(t, a)
				wantDue(t, x, node, now, []timer.Alarm{a})
				wantList(t, "due", x, nil)
				wantDue(t, x, node, now, nil)
				wantNext(t, x, node, timer.Alarm{}, false)
			}
		}
	}
}

// P6.2: each node at each time: what is due, in which order, and the whole list behind it.
func TestDue(t *testing.T) {
	random := rand.New(rand.NewSource(3))
	for _, alarms := range [][]timer.Alarm{nil, some(), numberedUpTo(9), numberedUpTo(63), numberedUpTo(64)} {
		list := ordered(alarms)
		for node := range 8 {
			for _, now := range append(nows(), 10, 11, 12, 18, 19, 20) {
				x := timersOf(t, shuffled(random, alarms)...)
				due, left := saidDue(list, node, now)
				wantDue(t, x, node, now, due)
				wantList(t, "behind it", x, left)
			}
		}
	}
}

// P6.2: by hand.
func TestDueByHand(t *testing.T) {
	x := timersOf(t, some()...)
	wantDue(t, x, 3, 6, []timer.Alarm{alarm(3, 5, 9), alarm(3, 6, 8), alarm(3, 6, 10)})
	wantDue(t, x, 0, -1, nil)
	wantDue(t, x, 0, 0, []timer.Alarm{alarm(0, 0, 0), alarm(0, 0, 255)})
	wantDue(t, x, 7, 1<<40-2, nil)
	wantDue(t, x, 2, math.MaxInt, nil)
	wantList(t, "by hand", x, []timer.Alarm{
		alarm(0, 7, 3), alarm(0, 1<<40, 1), alarm(0, 1<<40, 2),
		alarm(1, 7, 0),
		alarm(3, 7, 1), alarm(3, 8, 0),
		alarm(7, 1<<40-1, 5), alarm(7, 1<<40, 4),
	})
	wantDue(t, x, 0, math.MaxInt, []timer.Alarm{alarm(0, 7, 3), alarm(0, 1<<40, 1), alarm(0, 1<<40, 2)})
	wantDue(t, x, 7, 1<<40, []timer.Alarm{alarm(7, 1<<40-1, 5), alarm(7, 1<<40, 4)})
	wantDue(t, x, 3, 7, []timer.Alarm{alarm(3, 7, 1)})
	wantList(t, "by hand", x, []timer.Alarm{alarm(1, 7, 0), alarm(3, 8, 0)})
}

// P6.2, P6.3: what was due is due again only if it is set again.
func TestDueSetAgain(t *testing.T) {
	x := timersOf(t, alarm(6, 5, 1))
	for range 3 {
		wantDue(t, x, 6, 5, []timer.Alarm{alarm(6, 5, 1)})
		wantDue(t, x, 6, 5, nil)
		wantSet(t, x, alarm(6, 5, 1), api.OK)
	}
	wantSet(t, x, alarm(6, 2, 1), api.OK)
	wantDue(t, x, 6, 1, nil)
	wantDue(t, x, 6, 1000, []timer.Alarm{alarm(6, 2, 1)})
}

// P6.2: Clear of nodes with none, one and many alarms, those at the last time too.
func TestClearByHand(t *testing.T) {
	left := some()
	for node, count := range []int{5, 1, 0, 5, 0, 0, 0, 2} {
		x := timersOf(t, some()...)
		_, rest := saidClear(some(), node)
		wantClear(t, x, node, count)
		wantList(t, "cleared", x, rest)
		wantClear(t, x, node, 0)
		wantNext(t, x, node, timer.Alarm{}, false)
		wantList(t, "cleared twice", x, rest)
	}
	x := timersOf(t, some()...)
	for node, count := range []int{5, 1, 0, 5, 0, 0, 0, 2} {
		wantClear(t, x, node, count)
		_, left = saidClear(left, node)
		wantList(t, "cleared one by one", x, left)
	}
	wantList(t, "all cleared", x, nil)
}

// P6.2: Clear of each node, however many alarms there are.
func TestClear(t *testing.T) {
	for _, length := range lengths() {
		alarms := numberedUpTo(length)
		for node := range 8 {
			x := timersOf(t, alarms...)
			count, rest := saidClear(ordered(alarms), node)
			wantClear(t, x, node, count)
			wantList(t, "cleared", x, rest)
		}
	}
}

// P6.1, P6.2: whatever is called for a node, the others' alarms stay, and so does what is next there.
func TestOtherNodesStay(t *testing.T) {
	calls := []func(x *timer.Timers, node int){
		func(x *timer.Timers, node int) { x.Set(alarm(node, 3, 77)) },
		func(x *timer.Timers, node int) { x.Set(alarm(node, 99, 1)) },
		func(x *timer.Timers, node int) { x.Stop(node, 1) },
		func(x *timer.Timers, node int) { x.Stop(node, 99) },
		func(x *timer.Timers, node int) { x.Next(node) },
		func(x *timer.Timers, node int) { x.Due(node, 10) },
		func(x *timer.Timers, node int) { x.Due(node, math.MaxInt) },
		func(x *timer.Timers, node int) { x.Clear(node) },
	}
	alarms := numberedUpTo(60)
	for node := range 8 {
		for k, call := range calls {
			x := timersOf(t, alarms...)
			call(x, node)
			_, want := saidClear(ordered(alarms), node)
			if _, got := saidClear(x.List(), node); !slices.Equal(got, want) {
				t.Errorf("call %d for node %d: the others have %d, want %d", k, node, got, want)
			}
			for other := range 8 {
				if a, is := saidNext(want, other); other != node {
					wantNext(t, x, other, a, is)
				}
			}
		}
	}
}

// P6.3: what is due by a time is due in two steps as in one, and leaves the same.
func TestDueInTwoSteps(t *testing.T) {
	random := rand.New(rand.NewSource(4))
	for _, alarms := range [][]timer.Alarm{nil, some(), numberedUpTo(20), numberedUpTo(64)} {
		for node := range 8 {
			for _, now := range append(nows(), 10, 15, 19) {
				for _, half := range append(nows(), 3, 10, 15, 19) {
					one, two := timersOf(t, alarms...), timersOf(t, shuffled(random, alarms)...)
					first, second := two.Due(node, half), two.Due(node, now)
					for _, a := range first {
						if a.At > half {
							t.Fatalf("Due(%d, %d) tells %d", node, half, a)
						}
					}
					for _, a := range second {
						if a.At <= half || a.At > now {
							t.Fatalf("Due(%d, %d) behind %d tells %d", node, now, half, a)
						}
					}
					wantDue(t, one, node, max(half, now), slices.Concat(first, second))
					wantList(t, "in two steps", two, one.List())
				}
			}
		}
	}
}

// P6.3: as time goes on, each alarm is due once, at the first question that is not ahead of its time.
func TestEachIsDueOnce(t *testing.T) {
	for seed := range 50 {
		random := rand.New(rand.NewSource(int64(seed)))
		var alarms []timer.Alarm
		for n := range 64 {
			alarms = append(alarms, alarm(n%8, random.Intn(100), n))
		}
		x := timersOf(t, alarms...)
		told := map[timer.Alarm]int{}
		for before, now := -1, 0; before < 100; now += random.Intn(30) {
			for node := range 8 {
				for _, a := range x.Due(node, now) {
					told[a]++
					if a.Node != node || a.At <= before || a.At > now {
						t.Fatalf("Due(%d, %d) behind %d tells %d", node, now, before, a)
					}
				}
			}
			before = now
		}
		for _, a := range alarms {
			if told[a] != 1 {
				t.Errorf("%d was due %d times", a, told[a])
			}
		}
		wantList(t, "at the end", x, nil)
	}
}
