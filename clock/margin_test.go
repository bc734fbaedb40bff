package clock_test

import (
	"math"
	"testing"

	"weirkeep/clock"
)

func wantMargin(t *testing.T, lease, num, slack, want int) {
	t.Helper()
	if got := clock.Margin(lease, num, slack); got != want {
		t.Fatalf("Margin(%d, %d, %d): %d, want %d", lease, num, slack, got, want)
	}
}

// P5.3: by hand.
func TestMarginByHand(t *testing.T) {
	const end, most = 1 << 40, 1 << 20
	for _, x := range [][4]int{
		{100, 10, 2, 89}, {100, 0, 0, 100}, {100, 10, 0, 90}, {110, 10, 0, 100}, {109, 10, 0, 99}, {111, 10, 0, 100},
		{0, 0, 0, 0}, {1, 0, 0, 1}, {1, 1, 0, 0}, {2, 1, 0, 1}, {10, 0, 10, 0}, {10, 0, 11, 0}, {11, 0, 10, 1}, {10, 100, 8, 1}, {9, 100, 8, 0},
		{11, 1000, 0, 1}, {10, 1000, 0, 0}, {21, 1000, 0, 1}, {22, 1000, 0, 2}, {23, 1000, 1, 2},
		{end, 0, 0, end}, {end, 0, 1, end - 1}, {end, 1000, 0, end / 11}, {end, 1000, most, (end - most) / 11}, {end, 10, 0, 999556025250},
		{most, 0, most, 0}, {most + 1, 0, most, 1}, {most - 1, 0, most, 0}, {3, 50, 0, 2}, {4, 50, 0, 2}, {5, 50, 0, 3}, {199, 99, 0, 100}, {198, 99, 0, 99},
	} {
		wantMargin(t, x[0], x[1], x[2], x[3])
	}
}

// leases, nums, slacks lie at and around the edges of what counts.
func leases() []int {
	return []int{math.MinInt, -1 << 40, -100, -1, 0, 1, 2, 10, 11, 99, 100, 101, 1<<20 - 1, 1 << 20, 1<<20 + 1, 1<<20 + 12, 1 << 31, 1<<40 - 1, 1 << 40, 1<<40 + 1, 1 << 50, math.MaxInt / 100, math.MaxInt/100 + 1, math.MaxInt}
}

func nums() []int {
	return []int{math.MinInt, -1000, -101, -100, -99, -1, 0, 1, 2, 10, 99, 100, 101, 999, 1000, 1001, 1 << 32, math.MaxInt - 100, math.MaxInt - 99, math.MaxInt}
}

func slacks() []int {
	return []int{math.MinInt, -1 << 20, -1, 0, 1, 2, 10, 11, 99, 100, 101, 1<<20 - 1, 1 << 20, 1<<20 + 1, 1 << 40, math.MaxInt / 100, math.MaxInt/100 + 1, math.MaxInt}
}

// P5.3: what is told is the greatest number that is not above what the document says, and 0 where that is below 0.
func TestMarginEdges(t *testing.T) {
	for _, lease := range leases() {
		for _, num := range nums() {
			for _, slack := range slacks() {
				wantGreatest(t, lease, num, slack)
			}
		}
	}
	for lease := range 60 {
		for num := range 12 {
			for slack := range 30 {
				wantGreatest(t, lease, num*17, slack)
			}
		}
	}
}

func wantGreatest(t *testing.T, lease, num, slack int) {
	t.Helper()
	whole := 100*bounded(lease, 0, 1<<40) - 100*saidSlack(slack)
	part := 100 + saidNum(num)
	got := clock.Margin(lease, num, slack)
	if whole < 0 && got != 0 || whole >= 0 && (got < 0 || got*part > whole || (got+1)*part <= whole) {
		t.Fatalf("Margin(%d, %d, %d): %d", lease, num, slack, got)
	}
}

// P5.3: numbers outside of what counts count as the edge that they are outside of.
func TestMarginOutside(t *testing.T) {
	for _, lease := range leases() {
		for _, num := range nums() {
			for _, slack := range slacks() {
				wantMargin(t, lease, num, slack, clock.Margin(bounded(lease, 0, 1<<40), saidNum(num), saidSlack(slack)))
			}
		}
	}
}

// P5.4: of a fair history each window is fair.
func TestWindowsOfFairHistories(t *testing.T) {
	seen := 0
	for _, ticks := range smallHistories(4, 3) {
		for _, x := range [][2]int{{0, 0}, {0, 1}, {0, 2}, {50, 0}, {50, 1}, {100, 1}} {
			h := history{ticks, 2, x[0], x[1]}
			if h.ask() != fair {
				continue
			}
			for first := range ticks {
				for last := first; last < len(ticks); last++ {
					history{ticks[first : last+1], 2, x[0], x[1]}.want(t, fair)
					seen++
				}
			}
		}
	}
	if seen < 10000 {
		t.Errorf("only %d windows were seen", seen)
	}
}

// P5.2, P5.4: the window that is told is not fair as a history of its own; what ends ahead of it is fair, and so is what begins behind its beginning and ends with it.
func TestToldWindowIsUnfair(t *testing.T) {
	for _, ticks := range smallHistories(4, 3) {
		for slack := range 4 {
			got := history{ticks, 2, 0, slack}.ask()
			if got.fair {
				continue
			}
			length := got.last - got.first
			history{ticks[got.first : got.last+1], 2, 0, slack}.want(t, answer{0, length, false})
			history{ticks[:got.last], 2, 0, slack}.want(t, fair)
			history{ticks[got.first+1 : got.last+1], 2, 0, slack}.want(t, fair)
		}
	}
}

// P5.4: in a fair history, while a client's clock (1) has gone at most Margin on, the service's clock (0) has gone at most a lease on. A lease below the slack is left out: its Margin is 0, and a clock may be as far as the slack ahead of one that stands still.
func TestMarginIsEnough(t *testing.T) {
	used, whole := 0, 0
	for _, ticks := range smallHistories(4, 4) {
		for _, x := range [][2]int{{0, 0}, {0, 1}, {0, 3}, {10, 2}, {50, 0}, {50, 1}, {100, 2}, {1000, 1}} {
			num, slack := x[0], x[1]
			if (history{ticks, 2, num, slack}).ask() != fair {
				continue
			}
			for first := range ticks {
				for last := first; last < len(ticks); last++ {
					service, client := saidWay(ticks, 0, first, last), saidWay(ticks, 1, first, last)
					for lease := slack; lease <= 14; lease++ {
						if client > clock.Margin(lease, num, slack) {
							continue
						}
						used++
						if service == lease {
							whole++
						}
						if service > lease {
							t.Fatalf("%d, from %d to %d, drift %d, slack %d: %d is above a lease of %d", ticks, first, last, num, slack, service, lease)
						}
					}
				}
			}
		}
	}
	if used < 100000 || whole < 10000 {
		t.Errorf("%d times a lease was good, %d times to its end: the histories are too much alike", used, whole)
	}
}

// P5.4: with great numbers, at the edge: a service's clock that is as fast as a fair one may be comes just to the lease's end.
func TestMarginAtTheEdge(t *testing.T) {
	for _, num := range []int{0, 1, 10, 37, 100, 1000} {
		for _, slack := range []int{0, 1, 2, 1000} {
			for _, lease := range []int{1000, 1001, 1010, 12345, 1 << 19} {
				margin := clock.Margin(lease, num, slack)
				fast := ((100+num)*margin + 100*slack) / 100
				history{[][]int{{fast, margin}}, 2, num, slack}.want(t, fair)
				history{[][]int{{fast + 1, margin}}, 2, num, slack}.want(t, answer{0, 0, false})
				if over := ((100+num)*(margin+1) + 100*slack) / 100; fast > lease || over < lease || (100+num)*(margin+1)+100*slack <= 100*lease {
					t.Errorf("lease %d, drift %d, slack %d: Margin is %d", lease, num, slack, margin)
				}
			}
		}
	}
}
