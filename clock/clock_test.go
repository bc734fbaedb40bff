package clock_test

import (
	"math"
	"math/rand"
	"testing"

	"weirkeep/api"
	"weirkeep/clock"
)

// counted is what each number of nodes counts as.
func counted() map[int]int {
	return map[int]int{
		math.MinInt: 1, math.MinInt32: 1, -1 << 40: 1, -8: 1, -2: 1, -1: 1, 0: 1,
		1: 1, 2: 2, 3: 3, 4: 4, 5: 5, 6: 6, 7: 7, 8: 8,
		9: 8, 10: 8, 16: 8, 99: 8, 256: 8, 257: 8, 1 << 32: 8, 1<<32 + 3: 8, math.MaxInt32: 8, math.MaxInt: 8,
	}
}

// noNodes are those that clocks of that many nodes have not: just outside, far outside, and such as would be inside if they were cut to fewer bits, or counted from the end.
func noNodes(count int) []int {
	return []int{-1, -2, -count, -count - 1, count, count + 1, 8, 9, 256, 1 << 32, -1 << 32, math.MinInt, math.MaxInt, math.MinInt32, math.MaxInt32}
}

// tooGreat are numbers that no clock at 1 or later can go on by, and beside which many a sum does not hold.
func tooGreat() []int {
	return []int{1 << 40, 1<<40 + 1, 1 << 62, math.MaxInt - 1<<40, math.MaxInt - 1, math.MaxInt}
}

// wantNow fails, unless the clocks are at these times.
func wantNow(t *testing.T, what string, c *clock.Clocks, want []int) {
	t.Helper()
	if c.Len() != len(want) {
		t.Fatalf("%s: Len is %d, want %d", what, c.Len(), len(want))
	}
	for node, time := range want {
		if got := c.Now(node); got != time {
			t.Fatalf("%s: Now(%d) is %d, want %d", what, node, got, time)
		}
	}
}

func wantTick(t *testing.T, c *clock.Clocks, node, by int, want api.Errno) {
	t.Helper()
	if got := c.Tick(node, by); got != want {
		t.Fatalf("Tick(%d, %d): %d, want %d", node, by, got, want)
	}
}

// started are clocks of that many nodes, each at another time, and these times.
func started(t *testing.T, count int) (*clock.Clocks, []int) {
	t.Helper()
	c, times := clock.New(count), make([]int, count)
	for node := range times {
		times[node] = 1000*node + 1
		wantTick(t, c, node, times[node], api.OK)
	}
	return c, times
}

// P5.1: how many clocks there are, each at 0.
func TestNew(t *testing.T) {
	for n, count := range counted() {
		c := clock.New(n)
		wantNow(t, "new", c, make([]int, count))
		wantTick(t, c, count-1, 3, api.OK)
		wantTick(t, c, count, 3, api.ErrNone)
	}
}

// P5.1: each clock goes on by what it is told, and no other one does.
func TestTick(t *testing.T) {
	for count := 1; count <= api.MaxNode; count++ {
		c, times := started(t, count)
		wantNow(t, "started", c, times)
		for node := range count {
			for _, by := range []int{0, 1, 2, 7, 0, 1 << 20, 1 << 32, 1 << 39} {
				wantTick(t, c, node, by, api.OK)
				times[node] += by
				wantNow(t, "ticked", c, times)
			}
		}
	}
}

// P5.1: of no node there is no clock, whatever it should go on by.
func TestNoNode(t *testing.T) {
	for count := 1; count <= api.MaxNode; count++ {
		c, times := started(t, count)
		for _, node := range noNodes(count) {
			if got := c.Now(node); got != 0 {
				t.Errorf("of %d: Now(%d) is %d", count, node, got)
			}
			for _, by := range append(tooGreat(), 0, 1, -1, math.MinInt) {
				wantTick(t, c, node, by, api.ErrNone)
				wantNow(t, "no node", c, times)
			}
		}
	}
}

// P5.1: no clock goes back, not even one that is at its end.
func TestTickBack(t *testing.T) {
	for count := 1; count <= api.MaxNode; count++ {
		c, times := started(t, count)
		times[0] = api.MaxTime
		wantTick(t, c, 0, api.MaxTime-1, api.OK)
		for node := range count {
			for _, by := range []int{-1, -2, -1000, -1 << 20, -1 << 40, -1<<40 - 1, math.MinInt + 1, math.MinInt} {
				wantTick(t, c, node, by, api.ErrArg)
				wantNow(t, "back", c, times)
			}
		}
	}
}

// P5.1: a clock goes up to MaxTime, and no further, from wherever it stands.
func TestTickToTheEnd(t *testing.T) {
	for _, from := range []int{0, 1, 2, 1000, 1 << 20, 1 << 31, 1 << 39, 1<<40 - 2, 1<<40 - 1, 1 << 40} {
		for node := range api.MaxNode {
			c, times := clock.New(api.MaxNode), make([]int, api.MaxNode)
			wantTick(t, c, node, from, api.OK)
			times[node] = from
			left := 1<<40 - from
			for _, by := range []int{left + 1, left + 2, 1<<40 + 1, math.MaxInt - 1<<40, math.MaxInt - from, math.MaxInt - 1, math.MaxInt} {
				wantTick(t, c, node, by, api.ErrMax)
				wantNow(t, "too far", c, times)
			}
			wantTick(t, c, node, left, api.OK)
			times[node] = 1 << 40
			wantNow(t, "at the end", c, times)
			wantTick(t, c, node, 0, api.OK)
			wantTick(t, c, node, 1, api.ErrMax)
			wantNow(t, "still at the end", c, times)
		}
	}
}

// P5.1: numbers that are too great are refused, wherever a clock stands but at 0.
func TestTickTooGreat(t *testing.T) {
	c, times := started(t, api.MaxNode)
	for node := range times {
		for _, by := range tooGreat() {
			wantTick(t, c, node, by, api.ErrMax)
			wantNow(t, "too great", c, times)
		}
	}
}

// R5: clocks that were made apart have nothing in common.
func TestApart(t *testing.T) {
	one, other := clock.New(3), clock.New(3)
	wantTick(t, one, 1, 5, api.OK)
	wantTick(t, other, 2, 6, api.OK)
	wantNow(t, "one", one, []int{0, 5, 0})
	wantNow(t, "other", other, []int{0, 0, 6})
}

// saidTick is what the document says of Tick, in its order.
func saidTick(times []int, node, by int) api.Errno {
	if node < 0 || node >= len(times) {
		return api.ErrNone
	}
	if by < 0 {
		return api.ErrArg
	}
	if float64(times[node])+float64(by) > 1<<40 {
		return api.ErrMax
	}
	times[node] += by
	return api.OK
}

// P5.1: long rows of calls of all kinds, held against a plain list.
func TestTickRows(t *testing.T) {
	seen := map[api.Errno]int{}
	for seed := range 40 {
		random := rand.New(rand.NewSource(int64(seed)))
		n := random.Intn(12) - 2
		c, times := clock.New(n), make([]int, counted()[n])
		for range 400 {
			node, by := random.Intn(11)-1, random.Intn(1<<random.Intn(40))-1
			if random.Intn(40) == 0 {
				by = tooGreat()[random.Intn(len(tooGreat()))]
			}
			want := saidTick(times, node, by)
			seen[want]++
			wantTick(t, c, node, by, want)
			wantNow(t, "a row", c, times)
		}
	}
	for _, e := range []api.Errno{api.OK, api.ErrNone, api.ErrArg, api.ErrMax} {
		if seen[e] < 100 {
			t.Errorf("%d was answered %d times: the rows are too much alike", e, seen[e])
		}
	}
}
