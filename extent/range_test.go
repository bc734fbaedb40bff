package extent_test

import (
	"math"
	"math/rand"
	"testing"

	"weirkeep/api"
	"weirkeep/extent"
)

// saidRange is the error that Take and Give have of a range, whatever is free.
func saidRange(size int, r api.Range) api.Errno {
	switch {
	case r.From >= r.To:
		return api.ErrArg
	case r.From < 0 || r.To > size:
		return api.ErrRange
	}
	return api.OK
}

// P8.2: ranges that may not be: From at and above To is ErrArg, wherever they lie, ahead of ErrRange; From below 0, or To above n, is ErrRange, whatever is free.
func TestRangesThatMayNotBe(t *testing.T) {
	for _, free := range [][]bool{
		places(1), places(1, span(0, 1)), places(10), places(10, span(0, 10)), places(10, span(0, 2), span(4, 5), span(9, 10)),
		places(4096), places(4096, span(0, 4096)), places(4096, span(7, 4096)),
	} {
		size := len(free)
		m := mapOf(t, free)
		ends := append(outside(size), 0, 1, size/2, size-1)
		for _, from := range ends {
			for _, to := range ends {
				r := span(from, to)
				if want := saidRange(size, r); want != api.OK {
					wantTake(t, m, r, want)
					wantGive(t, m, r, want)
				}
			}
		}
		wantMap(t, "refused", m, free)
	}
}

// P8.2: by hand: which error stands, of a map of ten places of which 2 to 4, 5 to 6 and 8 to 10 are free.
func TestRefusedByHand(t *testing.T) {
	ranges := []api.Range{span(2, 4), span(5, 6), span(8, 10)}
	m := mapWith(t, 10, ranges...)
	for _, c := range []struct {
		r          api.Range
		take, give api.Errno
	}{
		{span(0, 0), api.ErrArg, api.ErrArg},
		{span(3, 3), api.ErrArg, api.ErrArg},
		{span(4, 2), api.ErrArg, api.ErrArg},
		{span(-1, -1), api.ErrArg, api.ErrArg},
		{span(-1, -2), api.ErrArg, api.ErrArg},
		{span(11, 11), api.ErrArg, api.ErrArg},
		{span(12, 11), api.ErrArg, api.ErrArg},
		{span(1, -1), api.ErrArg, api.ErrArg},
		{span(math.MaxInt, math.MinInt), api.ErrArg, api.ErrArg},
		{span(-1, 0), api.ErrRange, api.ErrRange},
		{span(-1, 1), api.ErrRange, api.ErrRange},
		{span(-2, -1), api.ErrRange, api.ErrRange},
		{span(-1, 3), api.ErrRange, api.ErrRange},
		{span(-1, 11), api.ErrRange, api.ErrRange},
		{span(9, 11), api.ErrRange, api.ErrRange},
		{span(6, 11), api.ErrRange, api.ErrRange},
		{span(10, 11), api.ErrRange, api.ErrRange},
		{span(11, 12), api.ErrRange, api.ErrRange},
		{span(math.MinInt, math.MaxInt), api.ErrRange, api.ErrRange},
		{span(0, math.MaxInt), api.ErrRange, api.ErrRange},
		{span(1, 3), api.ErrTwice, api.ErrNone},
		{span(3, 5), api.ErrTwice, api.ErrNone},
		{span(1, 5), api.ErrTwice, api.ErrNone},
		{span(3, 6), api.ErrTwice, api.ErrNone},
		{span(2, 6), api.ErrTwice, api.ErrNone},
		{span(2, 10), api.ErrTwice, api.ErrNone},
		{span(4, 6), api.ErrTwice, api.ErrNone},
		{span(5, 7), api.ErrTwice, api.ErrNone},
		{span(4, 7), api.ErrTwice, api.ErrNone},
		{span(7, 9), api.ErrTwice, api.ErrNone},
		{span(7, 10), api.ErrTwice, api.ErrNone},
		{span(0, 10), api.ErrTwice, api.ErrNone},
	} {
		wantTake(t, m, c.r, c.take)
		wantGive(t, m, c.r, c.give)
		wantRanges(t, "refused", m, 10, ranges...)
	}
	for _, r := range []api.Range{span(0, 1), span(0, 2), span(1, 2), span(4, 5), span(6, 7), span(6, 8), span(7, 8)} {
		wantTake(t, m, r, api.ErrTwice)
	}
	for _, r := range []api.Range{span(2, 3), span(3, 4), span(2, 4), span(5, 6), span(8, 9), span(9, 10), span(8, 10)} {
		wantGive(t, m, r, api.ErrNone)
	}
	wantRanges(t, "refused", m, 10, ranges...)
}

// P8.2: Take at a free range's beginning, at its end, in its middle, and of the whole of it.
func TestTake(t *testing.T) {
	for _, c := range []struct {
		r    api.Range
		left []api.Range
	}{
		{span(4, 5), []api.Range{span(0, 2), span(5, 9), span(11, 12)}},
		{span(4, 8), []api.Range{span(0, 2), span(8, 9), span(11, 12)}},
		{span(8, 9), []api.Range{span(0, 2), span(4, 8), span(11, 12)}},
		{span(5, 9), []api.Range{span(0, 2), span(4, 5), span(11, 12)}},
		{span(5, 8), []api.Range{span(0, 2), span(4, 5), span(8, 9), span(11, 12)}},
		{span(6, 7), []api.Range{span(0, 2), span(4, 6), span(7, 9), span(11, 12)}},
		{span(4, 9), []api.Range{span(0, 2), span(11, 12)}},
		{span(0, 1), []api.Range{span(1, 2), span(4, 9), span(11, 12)}},
		{span(1, 2), []api.Range{span(0, 1), span(4, 9), span(11, 12)}},
		{span(0, 2), []api.Range{span(4, 9), span(11, 12)}},
		{span(11, 12), []api.Range{span(0, 2), span(4, 9)}},
	} {
		m := mapWith(t, 12, span(0, 2), span(4, 9), span(11, 12))
		wantTake(t, m, c.r, api.OK)
		wantRanges(t, "taken", m, 12, c.left...)
		wantTake(t, m, c.r, api.ErrTwice)
		wantRanges(t, "taken twice", m, 12, c.left...)
	}
}

// P8.2: Give beside no free range, beside one ahead, beside one behind, and between two.
func TestGive(t *testing.T) {
	for _, c := range []struct {
		r    api.Range
		free []api.Range
	}{
		{span(4, 5), []api.Range{span(0, 2), span(4, 5), span(7, 9), span(10, 11)}},
		{span(3, 6), []api.Range{span(0, 2), span(3, 6), span(7, 9), span(10, 11)}},
		{span(2, 3), []api.Range{span(0, 3), span(7, 9), span(10, 11)}},
		{span(2, 6), []api.Range{span(0, 6), span(7, 9), span(10, 11)}},
		{span(6, 7), []api.Range{span(0, 2), span(6, 9), span(10, 11)}},
		{span(3, 7), []api.Range{span(0, 2), span(3, 9), span(10, 11)}},
		{span(2, 7), []api.Range{span(0, 9), span(10, 11)}},
		{span(9, 10), []api.Range{span(0, 2), span(7, 11)}},
		{span(11, 12), []api.Range{span(0, 2), span(7, 9), span(10, 12)}},
		{span(12, 14), []api.Range{span(0, 2), span(7, 9), span(10, 11), span(12, 14)}},
		{span(11, 14), []api.Range{span(0, 2), span(7, 9), span(10, 14)}},
		{span(13, 14), []api.Range{span(0, 2), span(7, 9), span(10, 11), span(13, 14)}},
	} {
		m := mapWith(t, 14, span(0, 2), span(7, 9), span(10, 11))
		wantGive(t, m, c.r, api.OK)
		wantRanges(t, "given", m, 14, c.free...)
		wantGive(t, m, c.r, api.ErrNone)
		wantRanges(t, "given twice", m, 14, c.free...)
	}
}

// P8.2: Give at the map's beginning, with and without a free range behind, and into a map in which none is free.
func TestGiveAtTheEdges(t *testing.T) {
	m := mapWith(t, 6, span(2, 3))
	wantGive(t, m, span(0, 1), api.OK)
	wantRanges(t, "at the beginning", m, 6, span(0, 1), span(2, 3))
	wantGive(t, m, span(1, 2), api.OK)
	wantRanges(t, "between", m, 6, span(0, 3))
	wantGive(t, m, span(5, 6), api.OK)
	wantGive(t, m, span(3, 5), api.OK)
	wantRanges(t, "all", m, 6, span(0, 6))
	for _, r := range []api.Range{span(0, 1), span(0, 6), span(2, 4), span(5, 6)} {
		m = mapWith(t, 6)
		wantGive(t, m, r, api.OK)
		wantRanges(t, "the only one", m, 6, r)
	}
	for _, r := range []api.Range{span(0, 3), span(1, 3), span(2, 3)} {
		m = mapWith(t, 6, span(3, 5))
		wantGive(t, m, r, api.OK)
		wantRanges(t, "beside one behind", m, 6, span(r.From, 5))
	}
}

// P8.2: many free ranges of one place: each of those between is given, in any order, and what stands ahead and behind stays.
func TestGiveAmongMany(t *testing.T) {
	random := rand.New(rand.NewSource(3))
	for _, size := range []int{5, 64, 300} {
		free := make([]bool, size)
		for i := range free {
			free[i] = i%2 == 0
		}
		m := mapOf(t, free)
		for _, i := range random.Perm(size) {
			if i%2 == 1 {
				wantGive(t, m, span(i, i+1), api.OK)
				free[i] = true
				wantMap(t, "given", m, free)
			}
		}
	}
}

// P8.2: a taken range may be given in other parts than it was taken in, and a free one taken in other parts than it was given in.
func TestOtherParts(t *testing.T) {
	m := extent.New(12)
	wantTake(t, m, span(2, 5), api.OK)
	wantTake(t, m, span(5, 8), api.OK)
	wantGive(t, m, span(3, 7), api.OK)
	wantRanges(t, "given", m, 12, span(0, 2), span(3, 7), span(8, 12))
	wantGive(t, m, span(2, 3), api.OK)
	wantGive(t, m, span(7, 8), api.OK)
	wantRanges(t, "all given", m, 12, span(0, 12))
	wantTake(t, m, span(1, 11), api.OK)
	wantGive(t, m, span(4, 5), api.OK)
	wantGive(t, m, span(5, 7), api.OK)
	wantTake(t, m, span(4, 6), api.OK)
	wantRanges(t, "taken", m, 12, span(0, 1), span(6, 7), span(11, 12))
}
