package timer_test

import (
	"math"
	"math/rand"
	"slices"
	"testing"

	"weirkeep/api"
	"weirkeep/timer"
)

func alarm(node, at, tag int) timer.Alarm { return timer.Alarm{Node: node, At: at, Tag: tag} }

// numbered is an alarm whose node and tag no other number below 2048 has; some times are the same.
func numbered(n int) timer.Alarm { return alarm(n*5%8, n*7%20, n/8) }

// numberedUpTo are so many of them.
func numberedUpTo(length int) []timer.Alarm {
	var list []timer.Alarm
	for n := range length {
		list = append(list, numbered(n))
	}
	return list
}

// timersOf are timers on which these were set.
func timersOf(t *testing.T, list ...timer.Alarm) *timer.Timers {
	t.Helper()
	x := timer.New()
	for _, a := range list {
		wantSet(t, x, a, api.OK)
	}
	return x
}

func wantSet(t *testing.T, x *timer.Timers, a timer.Alarm, want api.Errno) {
	t.Helper()
	if got := x.Set(a); got != want {
		t.Fatalf("Set(%d): %d, want %d", a, got, want)
	}
}

func wantStop(t *testing.T, x *timer.Timers, node, tag int, want api.Errno) {
	t.Helper()
	if got := x.Stop(node, tag); got != want {
		t.Fatalf("Stop(%d, %d): %d, want %d", node, tag, got, want)
	}
}

// wantList fails, unless List tells just these, in this order.
func wantList(t *testing.T, what string, x *timer.Timers, want []timer.Alarm) {
	t.Helper()
	if got := x.List(); !slices.Equal(got, want) {
		t.Fatalf("%s: List is %d, want %d", what, got, want)
	}
}

// ahead tells whether a stands ahead of b in List, as the document says it.
func ahead(a, b timer.Alarm) bool {
	if a.Node != b.Node {
		return a.Node < b.Node
	}
	if a.At != b.At {
		return a.At < b.At
	}
	return a.Tag < b.Tag
}

// ordered is List of these: each one goes in ahead of the first one that it stands ahead of.
func ordered(alarms []timer.Alarm) []timer.Alarm {
	var list []timer.Alarm
	for _, a := range alarms {
		i := 0
		for i < len(list) && !ahead(a, list[i]) {
			i++
		}
		list = slices.Insert(list, i, a)
	}
	return list
}

// shuffled are the same in another order.
func shuffled(random *rand.Rand, list []timer.Alarm) []timer.Alarm {
	list = slices.Clone(list)
	random.Shuffle(len(list), func(i, j int) { list[i], list[j] = list[j], list[i] })
	return list
}

// lengths are how many alarms there are in timers that are empty, hold few, are nearly full and are full.
func lengths() []int { return []int{0, 1, 2, 3, 8, 9, 32, 62, 63, 64} }

// noNodes are just outside and far outside; some would be nodes if they were cut to fewer bits, or counted from the end.
func noNodes() []int {
	return []int{-1, -2, -7, -8, -9, 8, 9, 15, 16, 64, 255, 256, 257, 1 << 16, 1 << 32, 1<<32 + 1, -1 << 32, math.MinInt32, math.MaxInt32, math.MinInt, math.MinInt + 1, math.MaxInt}
}

func noTimes() []int {
	return []int{-1, -2, -1 << 40, 1<<40 + 1, 1<<40 + 2, 1 << 41, 1 << 62, math.MinInt32, math.MinInt, math.MaxInt - 1, math.MaxInt}
}

func noTags() []int {
	return []int{-1, -2, -255, -256, 256, 257, 511, 512, 1 << 16, 1 << 32, 1<<32 + 1, -1 << 32, math.MinInt32, math.MaxInt32, math.MinInt, math.MaxInt}
}

// refused are alarms with one number that may not be, or several.
func refused() []timer.Alarm {
	list := []timer.Alarm{alarm(-1, -1, -1), alarm(8, 1<<40+1, 256), alarm(-1, 0, 256), alarm(0, -1, 256), alarm(math.MinInt, math.MaxInt, math.MinInt)}
	for _, node := range noNodes() {
		list = append(list, alarm(node, 0, 0), alarm(node, 1<<40, 255))
	}
	for _, at := range noTimes() {
		list = append(list, alarm(0, at, 0), alarm(7, at, 255))
	}
	for _, tag := range noTags() {
		list = append(list, alarm(0, 0, tag), alarm(7, 1<<40, tag))
	}
	return list
}

// P6.1: new timers have no alarms, and none of other timers.
func TestNew(t *testing.T) {
	wantList(t, "new", timer.New(), nil)
	one := timersOf(t, alarm(1, 2, 3))
	other := timer.New()
	wantList(t, "new, beside others", other, nil)
	wantSet(t, other, alarm(4, 5, 6), api.OK)
	wantStop(t, one, 4, 6, api.ErrNone)
	wantStop(t, other, 1, 3, api.ErrNone)
	wantList(t, "one", one, []timer.Alarm{alarm(1, 2, 3)})
	wantList(t, "other", other, []timer.Alarm{alarm(4, 5, 6)})
}

// P6.1: each node, and times and tags at and beside their edges, are taken as they are.
func TestSetEdges(t *testing.T) {
	for node := range 8 {
		for _, at := range []int{0, 1, 2, 255, 256, 1<<31 - 1, 1 << 31, 1 << 32, 1<<40 - 1, 1 << 40} {
			for _, tag := range []int{0, 1, 2, 127, 128, 254, 255} {
				a := alarm(node, at, tag)
				x := timersOf(t, a)
				wantList(t, "an edge", x, []timer.Alarm{a})
				wantStop(t, x, node, tag, api.OK)
				wantList(t, "an edge, stopped", x, nil)
			}
		}
	}
}

// P6.1: each tag is one of its own.
func TestSetAllTags(t *testing.T) {
	for from := 0; from < 256; from += 64 {
		var list []timer.Alarm
		for tag := from; tag < from+64; tag++ {
			list = append(list, alarm(3, 7, tag))
		}
		wantList(t, "tags", timersOf(t, list...), list)
	}
}

// P6.1: numbers that may not be are ErrArg, however many alarms there are: in full timers it stands ahead of ErrFull. Nothing changes.
func TestSetRefused(t *testing.T) {
	for _, length := range lengths() {
		alarms := numberedUpTo(length)
		x, want := timersOf(t, alarms...), ordered(alarms)
		for _, a := range refused() {
			wantSet(t, x, a, api.ErrArg)
			wantList(t, "refused", x, want)
		}
	}
}

// P6.1: a time that may not be is ErrArg also of an alarm that is there, which keeps its own time.
func TestSetRefusedWhereThere(t *testing.T) {
	for _, length := range lengths() {
		alarms := numberedUpTo(length)
		x, want := timersOf(t, alarms...), ordered(alarms)
		for _, a := range alarms {
			for _, at := range noTimes() {
				wantSet(t, x, alarm(a.Node, at, a.Tag), api.ErrArg)
			}
		}
		wantList(t, "refused", x, want)
	}
}

// P6.1: 64 alarms are taken, and not one more, till one is gone.
func TestSetFull(t *testing.T) {
	x := timer.New()
	for n := range 64 {
		wantSet(t, x, numbered(n), api.OK)
		wantList(t, "set", x, ordered(numberedUpTo(n+1)))
	}
	want := ordered(numberedUpTo(64))
	for n := 64; n < 200; n++ {
		wantSet(t, x, numbered(n), api.ErrFull)
		wantList(t, "full", x, want)
	}
	gone := numbered(20)
	wantStop(t, x, gone.Node, gone.Tag, api.OK)
	wantSet(t, x, numbered(64), api.OK)
	wantSet(t, x, numbered(65), api.ErrFull)
	wantSet(t, x, gone, api.ErrFull)
	wantList(t, "full again", x, ordered(append(slices.Delete(numberedUpTo(64), 20, 21), numbered(64))))
}

// P6.1: full timers of one node are full for the others too, and have room when alarms were due, or cleared.
func TestFullOfOneNode(t *testing.T) {
	for _, empty := range []func(x *timer.Timers) int{
		func(x *timer.Timers) int { return len(x.Due(3, 100)) },
		func(x *timer.Timers) int { return x.Clear(3) },
	} {
		x := timer.New()
		for tag := range 64 {
			wantSet(t, x, alarm(3, 100, tag), api.OK)
		}
		for node := range 8 {
			wantSet(t, x, alarm(node, 100, 64), api.ErrFull)
		}
		if gone := empty(x); gone != 64 {
			t.Errorf("%d are gone", gone)
		}
		wantList(t, "emptied", x, nil)
		for tag := range 64 {
			wantSet(t, x, alarm(5, 200, tag), api.OK)
		}
		wantSet(t, x, alarm(3, 100, 0), api.ErrFull)
	}
}

// P6.1: of a node and a tag that are there an alarm takes the place of the one that is, with its own time, however many there are.
func TestSetAnew(t *testing.T) {
	for _, length := range lengths() {
		alarms := numberedUpTo(length)
		x := timersOf(t, alarms...)
		for i, a := range alarms {
			for _, at := range []int{a.At, a.At + 1, a.At + 100, 1 << 40, 0, a.At / 2, a.At} {
				alarms[i] = alarm(a.Node, at, a.Tag)
				wantSet(t, x, alarms[i], api.OK)
				wantList(t, "set anew", x, ordered(alarms))
			}
			alarms[i].At = 31 * i % 50
			wantSet(t, x, alarms[i], api.OK)
		}
		wantList(t, "all set anew", x, ordered(alarms))
	}
}

// P6.1: an alarm that was set anew goes by its new time alone, and is gone once it is stopped.
func TestSetAnewStandsOnce(t *testing.T) {
	for _, times := range [][2]int{{10, 5}, {10, 20}, {10, 10}, {0, 1 << 40}, {1 << 40, 0}} {
		first, second := times[0], times[1]
		x := timersOf(t, alarm(2, first, 9), alarm(2, second, 9))
		if a, ok := x.Next(2); a != alarm(2, second, 9) || !ok {
			t.Errorf("%d: Next is %d, %t", times, a, ok)
		}
		if due := x.Due(2, second-1); len(due) != 0 {
			t.Errorf("%d: due ahead of its time: %d", times, due)
		}
		if due := x.Due(2, second); !slices.Equal(due, []timer.Alarm{alarm(2, second, 9)}) {
			t.Errorf("%d: due is %d", times, due)
		}
		wantList(t, "due", x, nil)
		x = timersOf(t, alarm(2, first, 9), alarm(2, second, 9))
		wantStop(t, x, 2, 9, api.OK)
		wantStop(t, x, 2, 9, api.ErrNone)
		wantList(t, "stopped", x, nil)
	}
}

// P6.1: the same tag of another node, and another tag of the same node, are others.
func TestSetBeside(t *testing.T) {
	x := timersOf(t, alarm(1, 5, 2), alarm(2, 5, 1), alarm(1, 5, 1), alarm(2, 5, 2))
	wantSet(t, x, alarm(1, 3, 2), api.OK)
	wantList(t, "beside", x, []timer.Alarm{alarm(1, 3, 2), alarm(1, 5, 1), alarm(2, 5, 1), alarm(2, 5, 2)})
	wantStop(t, x, 2, 1, api.OK)
	wantList(t, "beside", x, []timer.Alarm{alarm(1, 3, 2), alarm(1, 5, 1), alarm(2, 5, 2)})
}

// P6.1: each alarm can be stopped, once; the others stay.
func TestStop(t *testing.T) {
	for _, length := range lengths() {
		for i := range length {
			alarms := numberedUpTo(length)
			x, gone := timersOf(t, alarms...), alarms[i]
			want := ordered(slices.Delete(alarms, i, i+1))
			wantStop(t, x, gone.Node, gone.Tag, api.OK)
			wantList(t, "stopped", x, want)
			wantStop(t, x, gone.Node, gone.Tag, api.ErrNone)
			wantList(t, "stopped twice", x, want)
		}
	}
}

// P6.1: where there is no such alarm: ErrNone, and nothing changes.
func TestStopNone(t *testing.T) {
	for _, length := range lengths() {
		alarms := numberedUpTo(length)
		x, want := timersOf(t, alarms...), ordered(alarms)
		for node := range 8 {
			for tag := length/8 + 1; tag < 256; tag++ {
				wantStop(t, x, node, tag, api.ErrNone)
			}
			for _, tag := range noTags() {
				wantStop(t, x, node, tag, api.ErrNone)
			}
		}
		for _, node := range noNodes() {
			for _, tag := range append(noTags(), 0, 1, 255) {
				wantStop(t, x, node, tag, api.ErrNone)
			}
		}
		wantList(t, "none", x, want)
	}
}

// P6.1, P6.2: what was due, or cleared, cannot be stopped, till it is set again.
func TestStopGone(t *testing.T) {
	a := alarm(4, 10, 6)
	for name, let := range map[string]func(x *timer.Timers){
		"due":     func(x *timer.Timers) { x.Due(4, 10) },
		"cleared": func(x *timer.Timers) { x.Clear(4) },
		"stopped": func(x *timer.Timers) { x.Stop(4, 6) },
	} {
		x := timersOf(t, a, alarm(5, 10, 6))
		let(x)
		wantStop(t, x, 4, 6, api.ErrNone)
		wantList(t, name, x, []timer.Alarm{alarm(5, 10, 6)})
		wantSet(t, x, a, api.OK)
		wantStop(t, x, 4, 6, api.OK)
		wantStop(t, x, 5, 6, api.OK)
		wantList(t, name, x, nil)
	}
}

// P6.1: by Node, then by At, then by Tag: by hand, set in all orders.
func TestListByHand(t *testing.T) {
	want := []timer.Alarm{alarm(0, 3, 4), alarm(0, 3, 9), alarm(0, 5, 2), alarm(1, 0, 255), alarm(1, 1<<40, 0), alarm(7, 2, 1)}
	for _, list := range orders(want) {
		wantList(t, "by hand", timersOf(t, list...), want)
	}
}

// orders are all orders of a list.
func orders(list []timer.Alarm) [][]timer.Alarm {
	if len(list) == 0 {
		return [][]timer.Alarm{nil}
	}
	var all [][]timer.Alarm
	for _, rest := range orders(list[1:]) {
		for i := range len(list) {
			all = append(all, slices.Insert(slices.Clone(rest), i, list[0]))
		}
	}
	return all
}

// P6.1: List of full timers in which many times are the same, set in many orders; it changes nothing.
func TestList(t *testing.T) {
	random := rand.New(rand.NewSource(1))
	for _, below := range []int{1, 2, 5, 1 << 40} {
		var alarms []timer.Alarm
		for n := range 64 {
			alarms = append(alarms, alarm(n*3%8, random.Intn(below), 255-n/8*30))
		}
		want := ordered(alarms)
		for range 50 {
			x := timersOf(t, shuffled(random, alarms)...)
			wantList(t, "set", x, want)
			wantList(t, "asked again", x, want)
		}
	}
}
