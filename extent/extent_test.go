package extent_test

import (
	"math"
	"slices"
	"testing"

	"weirkeep/api"
	"weirkeep/extent"
)

func span(from, to int) api.Range { return api.Range{From: from, To: to} }

func wantTake(t *testing.T, m *extent.Map, r api.Range, want api.Errno) {
	t.Helper()
	if got := m.Take(r); got != want {
		t.Fatalf("Take(%v): %d, want %d", r, got, want)
	}
}

func wantGive(t *testing.T, m *extent.Map, r api.Range, want api.Errno) {
	t.Helper()
	if got := m.Give(r); got != want {
		t.Fatalf("Give(%v): %d, want %d", r, got, want)
	}
}

func wantAlloc(t *testing.T, m *extent.Map, k int, want api.Range) {
	t.Helper()
	if got, e := m.Alloc(k); got != want || e != api.OK {
		t.Fatalf("Alloc(%d): %v, %d, want %v", k, got, e, want)
	}
}

// wantNoAlloc fails, unless Alloc is refused by that error, and tells no range.
func wantNoAlloc(t *testing.T, m *extent.Map, k int, want api.Errno) {
	t.Helper()
	if got, e := m.Alloc(k); got != span(0, 0) || e != want {
		t.Fatalf("Alloc(%d): %v, %d, want no range, %d", k, got, e, want)
	}
}

// outside are places that a map of that size has not: just outside, far outside, and such as would be there if they were cut to fewer bits, or counted from the end.
func outside(size int) []int {
	return []int{-1, -2, -size, -size - 1, math.MinInt, math.MinInt32, -1 << 32, size, size + 1, 2 * size, 4096, 4097, 1 << 16, 1 << 32, 1<<32 + 1, math.MaxInt32, math.MaxInt}
}

// wantMap fails, unless just these places are free, of as many as the list has: by Free, by List, and by Is of each place, and of what is none.
func wantMap(t *testing.T, what string, m *extent.Map, free []bool) {
	t.Helper()
	count := 0
	for i, is := range free {
		if m.Is(i) != is {
			t.Fatalf("%s: Is(%d) is %t", what, i, !is)
		}
		if is {
			count++
		}
	}
	for _, i := range outside(len(free)) {
		if m.Is(i) {
			t.Fatalf("%s: Is(%d) is true, of %d places", what, i, len(free))
		}
	}
	if got := m.Free(); got != count {
		t.Fatalf("%s: Free is %d, want %d", what, got, count)
	}
	wantList(t, what, m.List(), free)
}

// wantList fails, unless the list has just these places, rises, and has as few ranges as can be.
func wantList(t *testing.T, what string, list []api.Range, free []bool) {
	t.Helper()
	told := make([]bool, len(free))
	last := -1
	for _, r := range list {
		if r.From <= last || r.To <= r.From || r.To > len(free) {
			t.Fatalf("%s: List is %v, of %d places", what, list, len(free))
		}
		for i := r.From; i < r.To; i++ {
			told[i] = true
		}
		last = r.To
	}
	if !slices.Equal(told, free) {
		t.Fatalf("%s: List is %v, want the places %v", what, list, free)
	}
}

// places are so many, of which those in the ranges are free.
func places(size int, ranges ...api.Range) []bool {
	free := make([]bool, size)
	for _, r := range ranges {
		for i := r.From; i < r.To; i++ {
			free[i] = true
		}
	}
	return free
}

// wantRanges fails, unless just these ranges are free, of that many places, and List tells them so.
func wantRanges(t *testing.T, what string, m *extent.Map, size int, ranges ...api.Range) {
	t.Helper()
	wantMap(t, what, m, places(size, ranges...))
	if got := m.List(); !slices.Equal(got, ranges) {
		t.Fatalf("%s: List is %v, want %v", what, got, ranges)
	}
}

// mapOf is a map in which just these places are free.
func mapOf(t *testing.T, free []bool) *extent.Map {
	t.Helper()
	m := extent.New(len(free))
	for i, is := range free {
		if !is {
			wantTake(t, m, span(i, i+1), api.OK)
		}
	}
	return m
}

// mapWith is a map of that many places, in which just those in the ranges are free.
func mapWith(t *testing.T, size int, ranges ...api.Range) *extent.Map {
	t.Helper()
	return mapOf(t, places(size, ranges...))
}

// sizes are numbers for New, and the size that is made of each.
func sizes() map[int]int {
	m := map[int]int{}
	for _, n := range []int{math.MinInt, math.MinInt32, -1 << 32, -4096, -64, -10, -2, -1, 0} {
		m[n] = 1
	}
	for _, n := range []int{1, 2, 3, 4, 10, 63, 64, 65, 255, 256, 257, 1000, 2048, 4094, 4095, 4096} {
		m[n] = n
	}
	for _, n := range []int{4097, 4098, 5000, 8192, 1 << 16, 1 << 32, 1<<32 + 5, math.MaxInt32, math.MaxInt - 1, math.MaxInt} {
		m[n] = 4096
	}
	return m
}

// The document's example.
func TestExample(t *testing.T) {
	m := extent.New(10)
	wantAlloc(t, m, 3, span(0, 3))
	wantAlloc(t, m, 2, span(3, 5))
	wantGive(t, m, span(0, 3), api.OK)
	wantAlloc(t, m, 4, span(5, 9))
	wantRanges(t, "the example", m, 10, span(0, 3), span(9, 10))
}

// P8.1: so many places as are asked for, at least 1, at most MaxBag times MaxBag, all free, and all of them may be taken.
func TestNew(t *testing.T) {
	for n, size := range sizes() {
		m := extent.New(n)
		wantRanges(t, "new", m, size, span(0, size))
		wantTake(t, m, span(0, size+1), api.ErrRange)
		wantTake(t, m, span(size-1, size), api.OK)
		wantMap(t, "the last one taken", m, places(size, span(0, size-1)))
		wantGive(t, m, span(size-1, size), api.OK)
		wantTake(t, m, span(0, size), api.OK)
		wantRanges(t, "all taken", m, size)
	}
}

// P8.1: Is at and around the edges of the map, and of each free range, of those too that lie at the map's edges.
func TestIs(t *testing.T) {
	for _, c := range []struct {
		size   int
		ranges []api.Range
	}{
		{20, []api.Range{span(3, 7), span(9, 10), span(12, 17)}},
		{20, []api.Range{span(0, 1), span(2, 3), span(19, 20)}},
		{20, []api.Range{span(0, 10), span(11, 20)}},
		{20, []api.Range{span(1, 19)}},
		{1, nil},
		{2, []api.Range{span(1, 2)}},
		{4096, []api.Range{span(0, 2047), span(2048, 2050), span(4095, 4096)}},
	} {
		m := mapWith(t, c.size, c.ranges...)
		wantRanges(t, "is", m, c.size, c.ranges...)
		for _, r := range c.ranges {
			for _, i := range []int{r.From, r.To - 1} {
				if !m.Is(i) {
					t.Errorf("Is(%d) is false, in %v", i, c.ranges)
				}
			}
			for _, i := range []int{r.From - 1, r.To} {
				if m.Is(i) {
					t.Errorf("Is(%d) is true, in %v", i, c.ranges)
				}
			}
		}
	}
}

// P8.1, R3: maps have nothing in common.
func TestMapsAreTheirOwn(t *testing.T) {
	one, two := extent.New(10), extent.New(10)
	wantTake(t, one, span(2, 4), api.OK)
	wantRanges(t, "two", two, 10, span(0, 10))
	wantTake(t, two, span(3, 8), api.OK)
	wantGive(t, one, span(3, 4), api.OK)
	wantAlloc(t, two, 1, span(0, 1))
	wantRanges(t, "one", one, 10, span(0, 2), span(3, 10))
	wantRanges(t, "two", two, 10, span(1, 3), span(8, 10))
}

// P8.1: Is, Free and List tell only.
func TestTellOnly(t *testing.T) {
	m := mapWith(t, 12, span(1, 3), span(5, 6), span(8, 12))
	for range 5 {
		wantRanges(t, "told", m, 12, span(1, 3), span(5, 6), span(8, 12))
	}
	wantAlloc(t, m, 3, span(8, 11))
	wantRanges(t, "allocated", m, 12, span(1, 3), span(5, 6), span(11, 12))
}
