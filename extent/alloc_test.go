package extent_test

import (
	"math"
	"math/rand"
	"testing"

	"weirkeep/api"
	"weirkeep/extent"
)

// notAbove are numbers below 1, for Alloc.
func notAbove() []int {
	return []int{0, -1, -2, -10, -4096, -1 << 32, math.MinInt32, math.MinInt + 1, math.MinInt}
}

// tooMany are numbers that no map has places for.
func tooMany() []int {
	return []int{4097, 5000, 1 << 16, 1 << 31, 1 << 32, 1<<32 + 1, 1 << 62, math.MaxInt32, math.MaxInt - 1, math.MaxInt}
}

// P8.2: Alloc with k below 1 is refused, also where nothing is free; with k above n and far above likewise; nothing changes.
func TestAllocRefused(t *testing.T) {
	for _, free := range [][]bool{
		places(1), places(1, span(0, 1)), places(10), places(10, span(0, 10)), places(10, span(1, 3), span(4, 8)),
		places(4096), places(4096, span(0, 4096)), places(4096, span(1, 4096)),
	} {
		size := len(free)
		m := mapOf(t, free)
		for _, k := range notAbove() {
			wantNoAlloc(t, m, k, api.ErrArg)
		}
		for _, k := range append(tooMany(), size+1, size+2, 2*size) {
			wantNoAlloc(t, m, k, api.ErrFull)
		}
		wantMap(t, "refused", m, free)
	}
}

// P8.2: of a map that is all free: 1, all places, and all but one; behind it the rest.
func TestAllocOfNew(t *testing.T) {
	for n, size := range sizes() {
		m := extent.New(n)
		wantAlloc(t, m, size, span(0, size))
		wantRanges(t, "all", m, size)
		m = extent.New(n)
		wantAlloc(t, m, 1, span(0, 1))
		wantMap(t, "one", m, places(size, span(1, size)))
		if size > 2 {
			m = extent.New(n)
			wantAlloc(t, m, size-1, span(0, size-1))
			wantRanges(t, "all but one", m, size, span(size-1, size))
			wantNoAlloc(t, m, 2, api.ErrFull)
			wantAlloc(t, m, 1, span(size-1, size))
			wantRanges(t, "all", m, size)
		}
	}
}

// P8.2: the lowest free ones, where earlier ranges are too small, where one is as great as asked for, one greater, and where the free ones are enough, but do not follow one another.
func TestAllocLowest(t *testing.T) {
	ranges := []api.Range{span(1, 2), span(4, 6), span(7, 10), span(12, 14), span(15, 20)}
	for k, want := range map[int]api.Range{1: span(1, 2), 2: span(4, 6), 3: span(7, 10), 4: span(15, 19), 5: span(15, 20)} {
		m, free := mapWith(t, 20, ranges...), places(20, ranges...)
		wantAlloc(t, m, k, want)
		for i := want.From; i < want.To; i++ {
			free[i] = false
		}
		wantMap(t, "the lowest", m, free)
	}
	m := mapWith(t, 20, ranges...)
	for _, k := range []int{6, 7, 13, 14, 19, 20, 21} {
		wantNoAlloc(t, m, k, api.ErrFull)
	}
	wantRanges(t, "refused", m, 20, ranges...)
	wantAlloc(t, m, 2, span(4, 6))
	wantAlloc(t, m, 2, span(7, 9))
	wantAlloc(t, m, 2, span(12, 14))
	wantAlloc(t, m, 1, span(1, 2))
	wantAlloc(t, m, 1, span(9, 10))
	wantNoAlloc(t, m, 6, api.ErrFull)
	wantAlloc(t, m, 5, span(15, 20))
	wantRanges(t, "all", m, 20)
}

// P8.2: the size of a free range, and one more, at ranges of all sizes.
func TestAllocSizes(t *testing.T) {
	for size := 3; size < 40; size++ {
		for k := 1; k <= size-2; k++ {
			r := span(1, 1+k)
			m := mapWith(t, size, r)
			wantNoAlloc(t, m, k+1, api.ErrFull)
			wantRanges(t, "one more", m, size, r)
			wantAlloc(t, m, k, r)
			wantRanges(t, "its size", m, size)
			wantNoAlloc(t, m, 1, api.ErrFull)
		}
	}
}

// P8.2: of a full map there is nothing, until something is given back; that is taken then.
func TestAllocFull(t *testing.T) {
	for _, size := range []int{1, 2, 10, 4096} {
		m := extent.New(size)
		wantAlloc(t, m, size, span(0, size))
		for _, k := range append(tooMany(), 1, 2, size, size+1) {
			wantNoAlloc(t, m, k, api.ErrFull)
		}
		for _, k := range notAbove() {
			wantNoAlloc(t, m, k, api.ErrArg)
		}
		wantRanges(t, "full", m, size)
		for _, i := range []int{0, size / 2, size - 1} {
			wantGive(t, m, span(i, i+1), api.OK)
			wantNoAlloc(t, m, 2, api.ErrFull)
			wantAlloc(t, m, 1, span(i, i+1))
			wantRanges(t, "full again", m, size)
		}
	}
}

// P8.2: every second place is free: no two follow one another, till one between is given.
func TestAllocBetween(t *testing.T) {
	const size = 4096
	m := extent.New(size)
	for i := 1; i < size; i += 2 {
		wantTake(t, m, span(i, i+1), api.OK)
	}
	if m.Free() != size/2 || len(m.List()) != size/2 {
		t.Fatalf("Free is %d, of %d ranges", m.Free(), len(m.List()))
	}
	wantNoAlloc(t, m, 2, api.ErrFull)
	wantGive(t, m, span(2001, 2002), api.OK)
	wantNoAlloc(t, m, 4, api.ErrFull)
	wantAlloc(t, m, 3, span(2000, 2003))
	wantNoAlloc(t, m, 2, api.ErrFull)
	wantAlloc(t, m, 1, span(0, 1))
	wantAlloc(t, m, 1, span(2, 3))
	wantGive(t, m, span(1, 2), api.OK)
	wantAlloc(t, m, 1, span(1, 2))
}

// P8.3: no two ranges that were allocated and not given back have a place in common, and what was allocated was free.
func TestAllocatedAreTheirOwn(t *testing.T) {
	for seed := range 60 {
		random := rand.New(rand.NewSource(int64(seed)))
		size := []int{7, 50, 200, 4096}[seed%4]
		m := extent.New(size)
		owners := make([]int, size)
		var owned []api.Range
		for call := 1; call <= 600; call++ {
			if len(owned) > 0 && random.Intn(3) == 0 {
				at := random.Intn(len(owned))
				wantGive(t, m, owned[at], api.OK)
				for i := owned[at].From; i < owned[at].To; i++ {
					owners[i] = 0
				}
				owned = append(owned[:at], owned[at+1:]...)
				continue
			}
			k := 1 + random.Intn(1+size/10)
			r, e := m.Alloc(k)
			if e == api.ErrFull {
				continue
			}
			if e != api.OK || r.To-r.From != k {
				t.Fatalf("Alloc(%d): %v, %d", k, r, e)
			}
			for i := r.From; i < r.To; i++ {
				if owners[i] != 0 {
					t.Fatalf("call %d: %d is allocated since call %d", call, i, owners[i])
				}
				owners[i] = call
			}
			owned = append(owned, r)
		}
		for _, r := range owned {
			wantGive(t, m, r, api.OK)
		}
		wantRanges(t, "all given back", m, size, span(0, size))
	}
}
