package clock

import (
	"iter"
	"slices"

	"weirkeep/api"
)

// ways are by how much each clock went on.
type ways [api.MaxNode]int

// Fair tells whether in no window a clock outruns another one, or else which window is the first one where one does.
func Fair(ticks [][]int, n, num, slack int) (int, int, bool) {
	sums, d, count := sumsOf(ticks), driftOf(num, slack), countOf(n)
	for first, last := range windows(len(ticks)) {
		way := between(sums[first], sums[last+1])
		if d.apart(way[:count]) {
			return first, last, false
		}
	}
	return 0, 0, true
}

// windows tells the first and the last row of each window, in the order in which Fair looks for one: those that end first ahead of others, of those that end at one row those that begin last.
func windows(rows int) iter.Seq2[int, int] {
	return func(yield func(first, last int) bool) {
		for last := range rows {
			for first := last; first >= 0; first-- {
				if !yield(first, last) {
					return
				}
			}
		}
	}
}

// sumsOf tells the ways of all clocks up to each row: from a window's beginning to its end there is one subtraction, however long it is.
func sumsOf(ticks [][]int) []ways {
	sums := make([]ways, 1, len(ticks)+1)
	var sum ways
	for _, row := range ticks {
		for i := range min(len(row), len(sum)) {
			sum[i] += within(row[i], 0, maxWay)
		}
		sums = append(sums, sum)
	}
	return sums
}

// between tells the ways from one sum to a later one.
func between(from, to ways) ways {
	for i := range to {
		to[i] -= from[i]
	}
	return to
}

// apart tells whether one of these clocks outruns another one. If any does, the fastest outruns the slowest; and none outruns itself.
func (d drift) apart(way []int) bool { return d.outruns(slices.Max(way), slices.Min(way)) }
