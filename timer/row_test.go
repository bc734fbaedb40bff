package timer_test

import (
	"math"
	"math/rand"
	"slices"
	"testing"

	"weirkeep/api"
	"weirkeep/timer"
)

// held are timers, and beside them the plain list that they are held against, in the order of List.
type held struct {
	t      *testing.T
	random *rand.Rand
	timers *timer.Timers
	list   []timer.Alarm
	tags   int // so many there are mostly: where they are few, much is set anew
	seen   map[string]int
}

// number is one below a bound, mostly, or one just or far outside.
func (h *held) number(below int) int {
	switch h.random.Intn(24) {
	case 0:
		return []int{-1, -2, below, below + 1}[h.random.Intn(4)]
	case 1:
		return []int{math.MinInt, math.MaxInt, 1 << 32, 256}[h.random.Intn(4)]
	}
	return h.random.Intn(below)
}

func (h *held) find(node, tag int) int {
	return slices.IndexFunc(h.list, func(a timer.Alarm) bool { return a.Node == node && a.Tag == tag })
}

// allowed tells whether no number of a is one that may not be.
func allowed(a timer.Alarm) bool {
	return a.Node >= 0 && a.Node <= 7 && a.At >= 0 && a.At <= 1<<40 && a.Tag >= 0 && a.Tag <= 255
}

func (h *held) set() {
	a := alarm(h.number(8), h.number(60), h.number(h.tags))
	i := h.find(a.Node, a.Tag)
	want := api.OK
	switch {
	case !allowed(a):
		want = api.ErrArg
		h.seen["refused"]++
	case i >= 0:
		h.list = ordered(append(slices.Delete(h.list, i, i+1), a))
		h.seen["anew"]++
	case len(h.list) >= 64:
		want = api.ErrFull
		h.seen["full"]++
	default:
		h.list = ordered(append(h.list, a))
	}
	wantSet(h.t, h.timers, a, want)
}

func (h *held) stop() {
	node, tag := h.number(8), h.number(h.tags)
	if len(h.list) > 0 && h.random.Intn(2) == 0 {
		a := h.list[h.random.Intn(len(h.list))]
		node, tag = a.Node, a.Tag
	}
	want := api.ErrNone
	if i := h.find(node, tag); i >= 0 {
		h.list = slices.Delete(h.list, i, i+1)
		want = api.OK
		h.seen["stopped"]++
	}
	wantStop(h.t, h.timers, node, tag, want)
}

func (h *held) next() {
	node := h.number(8)
	a, is := saidNext(h.list, node)
	wantNext(h.t, h.timers, node, a, is)
}

func (h *held) due() {
	node, now := h.number(8), h.number(60)/(1+h.random.Intn(4))
	var want []timer.Alarm
	want, h.list = saidDue(h.list, node, now)
	wantDue(h.t, h.timers, node, now, want)
	if len(want) > 1 {
		h.seen["due"]++
	}
}

func (h *held) clear() {
	node := h.number(8)
	var want int
	want, h.list = saidClear(h.list, node)
	wantClear(h.t, h.timers, node, want)
	if want > 1 {
		h.seen["cleared"]++
	}
}

// P6.1 to P6.3: long rows of calls of all kinds, of which some fill the timers and some empty them, held against a plain list.
func TestRows(t *testing.T) {
	seen := map[string]int{}
	for seed := range 60 {
		h := &held{t: t, random: rand.New(rand.NewSource(int64(seed))), timers: timer.New(), tags: []int{4, 12, 256}[seed%3], seen: seen}
		calls := []func(){h.set, h.set, h.stop, h.next, h.due}
		if seed%2 == 0 {
			calls = append(calls, h.set, h.set, h.set, h.set, h.set, h.set, h.set)
		} else {
			calls = append(calls, h.clear)
		}
		for range 1200 {
			calls[h.random.Intn(len(calls))]()
			if h.random.Intn(100) == 0 {
				h.clear()
			}
			wantList(t, "a row", h.timers, h.list)
			if len(h.list) == 0 {
				seen["empty"]++
			}
		}
	}
	for _, what := range []string{"refused", "anew", "full", "stopped", "due", "cleared", "empty"} {
		if seen[what] < 200 {
			t.Errorf("%s: %d times: the rows are too much alike", what, seen[what])
		}
	}
}

// R5: timers on which the same was set, in whatever order, answer the same, each time.
func TestSameEachTime(t *testing.T) {
	random := rand.New(rand.NewSource(7))
	alarms := numberedUpTo(64)
	list := ordered(alarms)
	for range 200 {
		x := timersOf(t, shuffled(random, alarms)...)
		wantList(t, "set", x, list)
		left := list
		for node := range 8 {
			a, is := saidNext(left, node)
			wantNext(t, x, node, a, is)
			var due []timer.Alarm
			due, left = saidDue(left, node, 9)
			wantDue(t, x, node, 9, due)
			wantList(t, "due", x, left)
		}
		for node := range 8 {
			var count int
			count, left = saidClear(left, node)
			wantClear(t, x, node, count)
			wantList(t, "cleared", x, left)
		}
	}
}

// R5: timers that came to hold the same by other calls, refused ones among them, answer the same from there on.
func TestNoTrace(t *testing.T) {
	alarms := numberedUpTo(64)
	plain, asked := timersOf(t, alarms...), timersOf(t, numberedUpTo(64)...)
	for _, a := range refused() {
		asked.Set(a)
	}
	for _, a := range alarms {
		asked.Set(alarm(a.Node, a.At+9, a.Tag))
		asked.Stop(a.Node, a.Tag)
		asked.Set(alarm(a.Node, 0, 200))
		asked.Next(a.Node)
		asked.Due(a.Node, -1)
		asked.Stop(a.Node, 200)
		asked.Set(a)
	}
	for _, node := range noNodes() {
		asked.Stop(node, 0)
		asked.Next(node)
		asked.Due(node, math.MaxInt)
		asked.Clear(node)
	}
	wantSet(t, asked, numbered(64), api.ErrFull)
	wantList(t, "asked", asked, plain.List())
	for now := range 25 {
		for node := range 8 {
			wantDue(t, asked, node, now, plain.Due(node, now))
			wantList(t, "due", asked, plain.List())
		}
	}
}

// later are rows of calls behind which what was told ahead of them must be as it was.
func later() []func(x *timer.Timers) {
	return []func(x *timer.Timers){
		func(x *timer.Timers) { x.Set(alarm(0, 0, 99)) },
		func(x *timer.Timers) { x.Set(alarm(0, 1<<40, 0)) },
		func(x *timer.Timers) { x.Stop(0, 0) },
		func(x *timer.Timers) { x.Next(0) },
		func(x *timer.Timers) { x.Due(0, 15) },
		func(x *timer.Timers) { x.Clear(0) },
		func(x *timer.Timers) { x.Stop(0, 0); x.Set(alarm(0, 1, 98)); x.Set(alarm(0, 2, 97)); x.List() },
		func(x *timer.Timers) {
			for node := range 8 {
				x.Clear(node)
			}
			for tag := range 64 {
				x.Set(alarm(5, 5, tag))
			}
			x.Due(5, 5)
		},
	}
}

// R3: what List and Due told is not changed by later calls.
func TestToldStays(t *testing.T) {
	for _, length := range lengths() {
		for k, calls := range later() {
			alarms := numberedUpTo(length)
			x := timersOf(t, alarms...)
			wantD, left := saidDue(ordered(alarms), 0, 10)
			whole, due, list := x.List(), x.Due(0, 10), x.List()
			calls(x)
			if !slices.Equal(whole, ordered(alarms)) || !slices.Equal(due, wantD) || !slices.Equal(list, left) {
				t.Errorf("calls %d, of %d: what was told is another one", k, length)
			}
		}
	}
}

// R3: the timers are not changed by changing what they told, its spare room too, nor is another answer.
func TestToldIsNew(t *testing.T) {
	for _, length := range lengths() {
		for k, calls := range later() {
			alarms := numberedUpTo(length)
			x, same := timersOf(t, alarms...), timersOf(t, alarms...)
			first, second := x.List(), x.List()
			spoil(first)
			wantList(t, "spoilt", x, ordered(alarms))
			if !slices.Equal(second, ordered(alarms)) {
				t.Errorf("another answer of %d is spoilt", length)
			}
			wantD, left := saidDue(ordered(alarms), 0, 10)
			due := x.Due(0, 10)
			same.Due(0, 10)
			spoil(second)
			if !slices.Equal(due, wantD) {
				t.Errorf("what is due of %d is spoilt", length)
			}
			spoil(due)
			wantList(t, "spoilt behind Due", x, left)
			calls(x)
			calls(same)
			behind := x.List()
			spoil(first)
			spoil(second)
			spoil(due)
			if want := same.List(); !slices.Equal(behind, want) || !slices.Equal(x.List(), want) {
				t.Errorf("calls %d: the timers of %d are spoilt", k, length)
			}
		}
	}
}

// spoil fills a list, with its spare room, with what nobody set.
func spoil(list []timer.Alarm) {
	list = list[:cap(list)]
	for i := range list {
		list[i] = alarm(7, 7777, 77)
	}
}
