package clock_test

import (
	"math"
	"math/rand"
	"slices"
	"testing"

	"weirkeep/api"
	"weirkeep/clock"
)

// history is what Fair is asked.
type history struct {
	ticks         [][]int
	n, num, slack int
}

// answer is what Fair says.
type answer struct {
	first, last int
	fair        bool
}

var fair = answer{0, 0, true}

func (h history) ask() answer {
	first, last, is := clock.Fair(h.ticks, h.n, h.num, h.slack)
	return answer{first, last, is}
}

func (h history) want(t *testing.T, want answer) {
	t.Helper()
	if got := h.ask(); got != want {
		t.Fatalf("Fair(%d, %d, %d, %d): %v, want %v", h.ticks, h.n, h.num, h.slack, got, want)
	}
}

// saidWay is by how much a clock went on from a row to another one.
func saidWay(ticks [][]int, node, first, last int) int {
	way := 0
	for _, row := range ticks[first : last+1] {
		switch {
		case node >= len(row) || row[node] < 0:
		case row[node] > 1<<20:
			way += 1 << 20
		default:
			way += row[node]
		}
	}
	return way
}

// saidCount, saidNum, saidSlack are what numbers count as.
func saidCount(n int) int     { return bounded(n, 1, 8) }
func saidNum(num int) int     { return bounded(num, 0, 1000) }
func saidSlack(slack int) int { return bounded(slack, 0, 1048576) }

func bounded(x, least, greatest int) int {
	if x < least {
		return least
	}
	if x > greatest {
		return greatest
	}
	return x
}

// saidUnfair is whether in a window one clock outruns another one: each pair is looked at.
func (h history) saidUnfair(first, last int) bool {
	for a := range saidCount(h.n) {
		for b := range saidCount(h.n) {
			mine, others := saidWay(h.ticks, a, first, last), saidWay(h.ticks, b, first, last)
			if a != b && 100*mine > (100+saidNum(h.num))*others+100*saidSlack(h.slack) {
				return true
			}
		}
	}
	return false
}

// said is a plain search through all windows, and how many of them are not fair.
func (h history) said() (answer, int) {
	best, found := fair, 0
	for first := range h.ticks {
		for last := first; last < len(h.ticks); last++ {
			if !h.saidUnfair(first, last) {
				continue
			}
			found++
			if found == 1 || last < best.last || last == best.last && first > best.first {
				best = answer{first, last, false}
			}
		}
	}
	return best, found
}

// P5.2: by hand.
func TestFairByHand(t *testing.T) {
	for _, x := range []struct {
		h    history
		want answer
	}{
		{history{[][]int{{10, 9}, {10, 9}}, 2, 10, 1}, fair},
		{history{[][]int{{10, 9}, {10, 9}}, 2, 0, 1}, answer{0, 1, false}},
		{history{[][]int{{9, 10}, {9, 10}}, 2, 0, 1}, answer{0, 1, false}},
		{history{[][]int{{1, 1}, {5, 0}, {0, 5}}, 2, 0, 4}, answer{1, 1, false}},
		{history{[][]int{{5, 0}, {0, 5}, {0, 5}}, 2, 0, 4}, answer{0, 0, false}},
		{history{[][]int{{3, 0}, {2, 0}, {5, 0}}, 2, 0, 4}, answer{0, 1, false}},
		{history{[][]int{{3, 0}, {3, 0}, {3, 0}, {3, 0}}, 2, 0, 5}, answer{0, 1, false}},
		{history{[][]int{{1, 0}, {3, 0}, {3, 0}, {9, 0}}, 2, 0, 6}, answer{0, 2, false}},
		{history{[][]int{{1, 0}, {1, 0}, {3, 0}, {4, 0}}, 2, 0, 6}, answer{2, 3, false}},
		{history{[][]int{{1, 1}, {0, 0}, {2, 0}, {0, 0}}, 2, 0, 1}, answer{2, 2, false}},
		{history{[][]int{{4, 0}, {0, 3}, {0, 3}}, 2, 0, 4}, answer{1, 2, false}},
		{history{[][]int{{0, 0, 0, 0, 0, 0, 0, 2}, {0, 9}}, 8, 0, 1}, answer{0, 0, false}},
	} {
		x.h.want(t, x.want)
	}
}

// P5.2: without a row there is no window; without a way none outruns.
func TestFairOfNothing(t *testing.T) {
	for _, ticks := range [][][]int{nil, {}, {nil}, {{}}, {nil, {}, nil}, {{0}, {}, {0, 0, 0}}, {{-1}, {0, math.MinInt}}} {
		for n := range counted() {
			for _, num := range []int{math.MinInt, 0, 10, math.MaxInt} {
				for _, slack := range []int{math.MinInt, 0, 1, math.MaxInt} {
					history{ticks, n, num, slack}.want(t, fair)
				}
			}
		}
	}
}

// P5.2: the clocks are the first n, of which there are 1 to MaxNode; what lies behind them in a row does not count.
func TestFairCount(t *testing.T) {
	for n, count := range counted() {
		for fast := range 12 {
			row := slices.Repeat([]int{3}, 12)
			row[fast] = 5
			want := fair
			if fast < count && count > 1 {
				want = answer{1, 1, false}
			}
			even := slices.Repeat([]int{3}, 12)
			history{[][]int{even, row, even}, n, 0, 1}.want(t, want)
		}
		behind := append(slices.Repeat([]int{3}, count), 1<<20, -1, math.MaxInt)
		if count < api.MaxNode {
			history{[][]int{behind, behind}, n, 0, 0}.want(t, fair)
		}
	}
}

// P5.2: a clock that a row does not reach has not gone on in it; what lies behind a row's length is not of it.
func TestFairShortRows(t *testing.T) {
	for length := range 9 {
		full := []int{5, 5, 5, 5, 5, 5, 5, 5}
		for n, count := range counted() {
			want := fair
			if 0 < length && length < count {
				want = answer{1, 1, false}
			}
			history{[][]int{full, full[:length], full}, n, 0, 4}.want(t, want)
			history{[][]int{full, full[:length], full}, n, 0, 5}.want(t, fair)
		}
	}
	history{[][]int{{5}}, 2, 0, 4}.want(t, answer{0, 0, false})
	history{[][]int{{5}, nil, {5}}, 2, 0, 9}.want(t, answer{0, 2, false})
}

// P5.2: a number below 0 is no way back: it counts as 0.
func TestFairBelowZero(t *testing.T) {
	for _, x := range []int{-1, -2, -5, -1 << 20, -1 << 40, math.MinInt32, math.MinInt + 1, math.MinInt} {
		history{[][]int{{0, x}}, 2, 0, 0}.want(t, fair)
		history{[][]int{{x, x}, {x, 0}}, 2, 0, 0}.want(t, fair)
		history{[][]int{{1, 3}, {1, x}}, 2, 0, 2}.want(t, fair)
		history{[][]int{{x, 1}}, 2, 0, 0}.want(t, answer{0, 0, false})
		history{[][]int{{4, 2}, {x, 2}, {1, 0}}, 2, 0, 2}.want(t, fair)
		history{[][]int{{4, 2}, {x, 0}, {1, 0}}, 2, 0, 2}.want(t, answer{0, 2, false})
	}
}

// P5.2: a number above 2^20 counts as 2^20.
func TestFairGreatNumbers(t *testing.T) {
	const most = 1 << 20
	for _, x := range []int{most, most + 1, most + 2, 1 << 21, 1 << 32, 1<<32 + 1, 1 << 40, 1 << 62, math.MaxInt32, math.MaxInt - 1, math.MaxInt} {
		history{[][]int{{x, most}, {most, x}, {x, x}}, 2, 0, 0}.want(t, fair)
		history{[][]int{{x, most - 1}}, 2, 0, 0}.want(t, answer{0, 0, false})
		history{[][]int{{x, most - 1}}, 2, 0, 1}.want(t, fair)
		history{[][]int{{x, most - 1}, {most - 1, x}, {x, most - 1}}, 2, 0, 1}.want(t, fair)
		history{[][]int{{x}, {x}}, 2, 0, most}.want(t, answer{0, 1, false})
	}
	history{[][]int{{most - 1, most}}, 2, 0, 0}.want(t, answer{0, 0, false})
}

// P5.2: drift counts as 0 to 1000 hundredths.
func TestFairDrift(t *testing.T) {
	least := [][]int{{1000, 1000}, {1001, 1000}}
	most := [][]int{{11000, 1000}, {11001, 1000}}
	for _, num := range []int{math.MinInt, math.MinInt32, -1000, -101, -100, -99, -2, -1, 0} {
		history{least, 2, num, 0}.want(t, answer{1, 1, false})
		history{least[:1], 2, num, 0}.want(t, fair)
	}
	for _, num := range []int{1000, 1001, 1002, 2000, 1 << 20, 1 << 32, 1<<32 + 10, math.MaxInt - 100, math.MaxInt - 99, math.MaxInt} {
		history{most, 2, num, 0}.want(t, answer{1, 1, false})
		history{most[:1], 2, num, 0}.want(t, fair)
	}
	history{[][]int{{1010, 1000}}, 2, 1, 0}.want(t, fair)
	history{[][]int{{1010, 1000}, {1011, 1000}}, 2, 1, 0}.want(t, answer{1, 1, false})
	history{[][]int{{10990, 1000}}, 2, 999, 0}.want(t, fair)
	history{[][]int{{10990, 1000}, {10991, 1000}}, 2, 999, 0}.want(t, answer{1, 1, false})
}

// P5.2: slack counts as 0 to 2^20.
func TestFairSlack(t *testing.T) {
	const most = 1 << 20
	for _, slack := range []int{math.MinInt, math.MinInt32, -most, -2, -1, 0} {
		history{[][]int{{7, 7}}, 2, 0, slack}.want(t, fair)
		history{[][]int{{7, 7}, {8, 7}}, 2, 0, slack}.want(t, answer{1, 1, false})
	}
	for _, slack := range []int{most, most + 1, most + 2, 1 << 21, 1 << 32, 1 << 40, 1 << 62, math.MaxInt/100 + 1, math.MaxInt - 1, math.MaxInt} {
		history{[][]int{{most, 0}}, 2, 0, slack}.want(t, fair)
		history{[][]int{{most, 0}, {1, 0}}, 2, 0, slack}.want(t, answer{0, 1, false})
	}
	history{[][]int{{most - 1, 0}}, 2, 0, most - 1}.want(t, fair)
	history{[][]int{{most, 0}}, 2, 0, most - 1}.want(t, answer{0, 0, false})
}

// spread is a history of that many rows in which the clocks go these ways, each as evenly as can be.
func spread(rows int, ways []int) [][]int {
	var ticks [][]int
	for i := range rows {
		var row []int
		for _, way := range ways {
			row = append(row, way*(i+1)/rows-way*i/rows)
		}
		ticks = append(ticks, row)
	}
	return ticks
}

// P5.2: a clock that just does not outrun another one, and by one more does: of each pair, alone and among others.
func TestFairEdges(t *testing.T) {
	for _, num := range []int{0, 1, 7, 10, 33, 99, 100, 250, 999, 1000} {
		for _, slack := range []int{0, 1, 2, 50, 1000} {
			for _, slow := range []int{0, 1, 2, 3, 10, 99, 100, 101, 12345} {
				most := ((100+num)*slow + 100*slack) / 100
				for a := range api.MaxNode {
					for _, others := range []int{slow, most} {
						ways := slices.Repeat([]int{others}, api.MaxNode)
						ways[(a+3)%api.MaxNode] = slow
						ways[a] = most
						history{[][]int{ways}, 8, num, slack}.want(t, fair)
						ways[a] = most + 1
						history{[][]int{ways}, 8, num, slack}.want(t, answer{0, 0, false})
					}
				}
			}
		}
	}
}

// P5.2: the same in windows of many rows: by one more in the last row windows that end there are not fair, and no other ones.
func TestFairEdgesOfLongWindows(t *testing.T) {
	for _, rows := range []int{1, 2, 3, 4, 10, 50} {
		for _, num := range []int{0, 10, 1000} {
			for _, slack := range []int{0, 1, 2, 100} {
				slow := 100 * rows
				even := spread(rows, []int{slow + slow*num/100, slow})
				history{even, 2, num, slack}.want(t, fair)
				for i := range min(rows, slack) {
					even[i*rows/min(rows, slack)][0]++
				}
				if rows < slack {
					even[0][0] += slack - rows
				}
				history{even, 2, num, slack}.want(t, fair)
				even[rows-1][0]++
				want, found := history{even, 2, num, slack}.said()
				if want.last != rows-1 || found == 0 {
					t.Fatalf("%d rows: %v: not the edge that is meant", rows, want)
				}
				history{even, 2, num, slack}.want(t, want)
			}
		}
	}
}

// P5.2: sums far above what 32 bits hold, in more rows than anybody asks for.
func TestFairGreatSums(t *testing.T) {
	const rows, most = 2000, 1 << 20
	slow := most / 11
	ticks := make([][]int, rows)
	for i := range ticks {
		ticks[i] = []int{11 * slow, slow}
	}
	history{ticks, 2, 1000, 0}.want(t, fair)
	for _, i := range []int{500, 900, rows - 1} {
		ticks[i] = []int{11*slow + 1, slow}
	}
	history{ticks, 2, 1000, 3}.want(t, fair)
	history{ticks, 2, 1000, 2}.want(t, answer{500, rows - 1, false})
	history{ticks, 2, 1000, 1}.want(t, answer{500, 900, false})
	history{ticks, 2, 1000, 0}.want(t, answer{500, 500, false})
	for i := range ticks {
		ticks[i] = []int{most, most, most}
	}
	history{ticks, 3, 0, 0}.want(t, fair)
	ticks[rows-1] = []int{most, most, most - 2}
	history{ticks, 3, 0, 1}.want(t, answer{rows - 1, rows - 1, false})
}

// P5.2: of many windows that are not fair, the one that ends first is told, of those the one that begins last: all histories of two clocks that are this small.
func TestFairSmallHistories(t *testing.T) {
	several := 0
	for _, ticks := range smallHistories(4, 3) {
		for _, num := range []int{0, 50, 100} {
			for _, slack := range []int{0, 1, 2, 3} {
				h := history{ticks, 2, num, slack}
				want, found := h.said()
				h.want(t, want)
				if found > 1 {
					several++
				}
			}
		}
	}
	if several < 10000 {
		t.Errorf("only %d histories have several windows", several)
	}
}

// smallHistories are all histories of two clocks of up to that many rows, in which no number is as great as below.
func smallHistories(rows, below int) [][][]int {
	all := [][][]int{nil}
	for done := 0; rows > 0; rows-- {
		behind := len(all)
		for _, ticks := range all[done:behind] {
			for x := range below * below {
				all = append(all, append(slices.Clone(ticks), []int{x / below, x % below}))
			}
		}
		done = behind
	}
	return all
}

// randomNumber is mostly one of a way that is not great, sometimes one that counts as another one.
func randomNumber(random *rand.Rand, about int) int {
	switch random.Intn(20) {
	case 0:
		return -random.Intn(about + 1)
	case 1:
		return []int{math.MinInt, -1, 0, 1<<20 - 1, 1 << 20, 1<<20 + 1, math.MaxInt}[random.Intn(7)]
	}
	return about + random.Intn(3)
}

func randomHistory(random *rand.Rand) history {
	about := random.Intn(1 << random.Intn(12))
	var ticks [][]int
	for range random.Intn(12) {
		var row []int
		for range random.Intn(3) + 7 {
			if random.Intn(4) > 0 {
				row = append(row, about+random.Intn(2))
			} else {
				row = append(row, randomNumber(random, about))
			}
		}
		ticks = append(ticks, row)
	}
	slacks := []int{-1, 0, 1, 2, 3, 4, 10, 100, 1<<20 - 1, 1 << 20, 1<<20 + 1}
	nums := []int{-1, 0, 1, 5, 10, 50, 100, 1000, 1001}
	return history{ticks, random.Intn(12) - 1, nums[random.Intn(len(nums))], slacks[random.Intn(len(slacks))]}
}

// P5.2: histories of all kinds, held against a plain search through all windows.
func TestFairRandom(t *testing.T) {
	random := rand.New(rand.NewSource(5))
	kinds := map[string]int{}
	for range 8000 {
		h := randomHistory(random)
		want, found := h.said()
		h.want(t, want)
		switch {
		case want.fair && len(h.ticks) > 1 && h.n > 1:
			kinds["fair"]++
		case found > 1 && want.first < want.last:
			kinds["long, of several"]++
		case found > 1:
			kinds["one row, of several"]++
		case found == 1:
			kinds["alone"]++
		}
	}
	for _, kind := range []string{"fair", "long, of several", "one row, of several", "alone"} {
		if kinds[kind] < 50 {
			t.Errorf("%s: %d: the histories are too much alike", kind, kinds[kind])
		}
	}
}

// R3, R5: Fair changes nothing of the history, nor what lies behind its lists' lengths, and says the same again.
func TestFairChangesNothing(t *testing.T) {
	random := rand.New(rand.NewSource(6))
	for range 500 {
		h := randomHistory(random)
		var rows, copied [][]int
		for _, row := range h.ticks {
			row = append(slices.Clone(row), -7, 1<<30, 77)
			rows, copied = append(rows, row), append(copied, slices.Clone(row))
		}
		spare := append(slices.Clone(rows), []int{1 << 20}, []int{77})
		for i := range rows {
			spare[i] = rows[i][:len(rows[i])-3]
		}
		long := h
		long.ticks = spare[:len(rows)]
		want := h.ask()
		long.want(t, want)
		long.want(t, want)
		for i, row := range rows {
			if !slices.Equal(row, copied[i]) || len(spare[i]) != len(row)-3 || len(row) > 3 && &spare[i][0] != &row[0] {
				t.Fatalf("row %d is %d, and was %d", i, row, copied[i])
			}
		}
		if behind := spare[len(rows):]; behind[0][0] != 1<<20 || behind[1][0] != 77 {
			t.Fatalf("behind the history is %d", behind)
		}
	}
}

// R5: Fair hangs on no clocks, and changes none.
func TestFairAlone(t *testing.T) {
	c, times := started(t, 2)
	h := history{[][]int{{10, 9}, {10, 9}}, 2, 0, 1}
	h.want(t, answer{0, 1, false})
	wantNow(t, "asked", c, times)
	wantTick(t, c, 0, 5, api.OK)
	h.want(t, answer{0, 1, false})
}
