package extent_test

import (
	"math"
	"math/rand"
	"slices"
	"strconv"
	"testing"

	"weirkeep/api"
	"weirkeep/extent"
)

// all tells whether each place of r is free, or taken, as is says.
func all(free []bool, r api.Range, is bool) bool {
	return !slices.Contains(free[r.From:r.To], !is)
}

// set is the list with the places of r as is says.
func set(free []bool, r api.Range, is bool) []bool {
	free = slices.Clone(free)
	for i := r.From; i < r.To; i++ {
		free[i] = is
	}
	return free
}

// saidTake is Take's answer, and what is free behind it.
func saidTake(free []bool, r api.Range) ([]bool, api.Errno) {
	if e := saidRange(len(free), r); e != api.OK {
		return free, e
	}
	if !all(free, r, true) {
		return free, api.ErrTwice
	}
	return set(free, r, false), api.OK
}

// saidGive is Give's answer, and what is free behind it.
func saidGive(free []bool, r api.Range) ([]bool, api.Errno) {
	if e := saidRange(len(free), r); e != api.OK {
		return free, e
	}
	if !all(free, r, false) {
		return free, api.ErrNone
	}
	return set(free, r, true), api.OK
}

// saidAlloc is Alloc's answer, and what is free behind it: each place is tried, from the lowest on.
func saidAlloc(free []bool, k int) (api.Range, []bool, api.Errno) {
	if k < 1 {
		return api.Range{}, free, api.ErrArg
	}
	for from := range free {
		if k > len(free)-from {
			break
		}
		if r := span(from, from+k); all(free, r, true) {
			return r, set(free, r, false), api.OK
		}
	}
	return api.Range{}, free, api.ErrFull
}

func wantAnyAlloc(t *testing.T, m *extent.Map, k int, r api.Range, e api.Errno) {
	t.Helper()
	if e == api.OK {
		wantAlloc(t, m, k, r)
	} else {
		wantNoAlloc(t, m, k, e)
	}
}

// patterns are all lists of that many places.
func patterns(size int) [][]bool {
	var list [][]bool
	for bits := range 1 << size {
		free := make([]bool, size)
		for i := range free {
			free[i] = bits>>i&1 == 1
		}
		list = append(list, free)
	}
	return list
}

// P8.1 to P8.3: each call on each small map: its answer, what is free behind it; and what was taken, or allocated, and is given back, or was given and is taken back, is as it was.
func TestAllSmall(t *testing.T) {
	for size := 1; size <= 8; size++ {
		for _, free := range patterns(size) {
			m := mapOf(t, free)
			wantMap(t, "made", m, free)
			for from := -2; from <= size+2; from++ {
				for to := -2; to <= size+2; to++ {
					r := span(from, to)
					behind, e := saidTake(free, r)
					wantTake(t, m, r, e)
					wantMap(t, "taken", m, behind)
					if e == api.OK {
						wantGive(t, m, r, api.OK)
						wantMap(t, "given back", m, free)
					}
					behind, e = saidGive(free, r)
					wantGive(t, m, r, e)
					wantMap(t, "given", m, behind)
					if e == api.OK {
						wantTake(t, m, r, api.OK)
						wantMap(t, "taken back", m, free)
					}
				}
			}
			for k := -2; k <= size+2; k++ {
				r, behind, e := saidAlloc(free, k)
				wantAnyAlloc(t, m, k, r, e)
				wantMap(t, "allocated", m, behind)
				if e == api.OK {
					wantGive(t, m, r, api.OK)
					wantMap(t, "given back", m, free)
				}
			}
		}
	}
}

// orders are all orders of the numbers below n.
func orders(n int) [][]int {
	if n == 0 {
		return [][]int{nil}
	}
	var list [][]int
	for _, order := range orders(n - 1) {
		for at := range n {
			list = append(list, slices.Insert(slices.Clone(order), at, n-1))
		}
	}
	return list
}

// P8.3: all places taken one by one in any order, then given back in any other order: one range.
func TestOneByOne(t *testing.T) {
	for size := 1; size <= 5; size++ {
		for _, taken := range orders(size) {
			for _, given := range orders(size) {
				oneByOne(t, taken, given, 1)
			}
		}
	}
	random := rand.New(rand.NewSource(5))
	for range 20 {
		size := 6 + random.Intn(120)
		oneByOne(t, random.Perm(size), random.Perm(size), 1)
	}
	oneByOne(t, random.Perm(4096), random.Perm(4096), 512)
}

// oneByOne takes all places in an order, and gives them back in another one; it looks at the map each so many calls.
func oneByOne(t *testing.T, taken, given []int, each int) {
	t.Helper()
	size := len(taken)
	m, free := extent.New(size), places(size, span(0, size))
	for n, i := range taken {
		wantTake(t, m, span(i, i+1), api.OK)
		free[i] = false
		if n%each == 0 {
			wantMap(t, "taken", m, free)
		}
	}
	wantRanges(t, "all taken", m, size)
	for n, i := range given {
		wantGive(t, m, span(i, i+1), api.OK)
		free[i] = true
		if n%each == 0 {
			wantMap(t, "given", m, free)
		}
	}
	wantRanges(t, "all given", m, size, span(0, size))
}

// held is a map, and beside it the plain list of which place is free, that it is held against.
type held struct {
	t      *testing.T
	random *rand.Rand
	m      *extent.Map
	free   []bool
	most   int // so long ranges are mostly
	seen   map[string]int
}

func newHeld(t *testing.T, seed, size int, seen map[string]int) *held {
	random := rand.New(rand.NewSource(int64(seed)))
	most := []int{1, 3, 1 + size/8, size}[random.Intn(4)]
	return &held{t: t, random: random, m: extent.New(size), free: places(size, span(0, size)), most: most, seen: seen}
}

func (h *held) count(what string, e api.Errno) { h.seen[what+" "+strconv.Itoa(int(e))]++ }

// far is a number just or far outside.
func (h *held) far() int {
	list := outside(len(h.free))
	return list[h.random.Intn(len(list))]
}

// any is a range somewhere, mostly inside.
func (h *held) any() api.Range {
	from := h.random.Intn(len(h.free))
	r := span(from, min(from+1+h.random.Intn(h.most), len(h.free)))
	switch h.random.Intn(16) {
	case 0:
		r.From = h.far()
	case 1:
		r.To = h.far()
	case 2:
		r.From, r.To = r.To, r.From
	case 3:
		r.To = r.From
	}
	return r
}

// like is a range of places that are all free, or all taken, as is says, or as near to that as was found.
func (h *held) like(is bool) api.Range {
	r := h.any()
	for range 20 {
		if saidRange(len(h.free), r) == api.OK && h.free[r.From] == is {
			break
		}
		r = h.any()
	}
	if saidRange(len(h.free), r) != api.OK || h.random.Intn(4) == 0 {
		return r
	}
	for r.To > r.From+1 && !all(h.free, r, is) {
		r.To--
	}
	for h.random.Intn(2) == 0 && r.To < len(h.free) && h.free[r.To] == is {
		r.To++
	}
	return r
}

func (h *held) take() {
	r := h.like(true)
	var e api.Errno
	h.free, e = saidTake(h.free, r)
	wantTake(h.t, h.m, r, e)
	h.count("take", e)
}

func (h *held) give() {
	r := h.like(false)
	if saidRange(len(h.free), r) == api.OK && all(h.free, r, false) {
		ahead, behind := r.From > 0 && h.free[r.From-1], r.To < len(h.free) && h.free[r.To]
		h.seen["give beside "+strconv.FormatBool(ahead)+" "+strconv.FormatBool(behind)]++
	}
	var e api.Errno
	h.free, e = saidGive(h.free, r)
	wantGive(h.t, h.m, r, e)
	h.count("give", e)
}

func (h *held) alloc() {
	k := 1 + h.random.Intn(h.most)
	if h.random.Intn(10) == 0 {
		k = h.far()
	}
	r, behind, e := saidAlloc(h.free, k)
	if e == api.OK && slices.Contains(h.free[:r.From], true) {
		h.seen["alloc behind smaller ones"]++
	}
	h.free = behind
	wantAnyAlloc(h.t, h.m, k, r, e)
	h.count("alloc", e)
}

// P8.1 to P8.3: long rows of calls of all kinds, of which some take more than they give, and some less, held against a plain list of which place is free.
func TestRows(t *testing.T) {
	seen := map[string]int{}
	for seed := range 120 {
		h := newHeld(t, seed, []int{1, 2, 9, 33, 64, 200}[seed%6], seen)
		calls := []func(){h.take, h.give, h.give, h.alloc}
		if seed%2 == 0 {
			calls = []func(){h.take, h.take, h.give, h.give, h.alloc, h.give, h.give}
		}
		for range 800 {
			calls[h.random.Intn(len(calls))]()
			wantMap(t, "a row", h.m, h.free)
		}
	}
	for _, what := range []string{
		"take 0", "take 1", "take 71", "take 4", "give 0", "give 1", "give 71", "give 3", "alloc 0", "alloc 1", "alloc 2", "alloc behind smaller ones",
		"give beside false false", "give beside false true", "give beside true false", "give beside true true",
	} {
		if seen[what] < 200 {
			t.Errorf("%s: %d times: the rows are too much alike", what, seen[what])
		}
	}
}

// P8.1 to P8.3: rows of calls on the greatest map.
func TestGreatRows(t *testing.T) {
	for seed := range 6 {
		h := newHeld(t, seed, 4096, map[string]int{})
		h.most = []int{2, 40, 700}[seed%3]
		calls := []func(){h.take, h.give, h.alloc}
		for n := range 1500 {
			calls[h.random.Intn(3)]()
			if n%20 == 0 {
				wantMap(t, "a great row", h.m, h.free)
			}
		}
		wantMap(t, "a great row", h.m, h.free)
	}
}

// P8.3: ranges that are taken from a map, and given back in another order, whole, leave what was.
func TestTakenAndGivenBack(t *testing.T) {
	for seed := range 200 {
		h := newHeld(t, seed, 60, map[string]int{})
		for range 30 {
			h.take()
			h.give()
		}
		before, list := h.free, h.m.List()
		var taken []api.Range
		for range 20 {
			r := h.like(true)
			if h.m.Take(r) == api.OK {
				taken = append(taken, r)
			}
			if r, e := h.m.Alloc(1 + h.random.Intn(4)); e == api.OK {
				taken = append(taken, r)
			}
		}
		for _, at := range h.random.Perm(len(taken)) {
			wantGive(t, h.m, taken[at], api.OK)
		}
		wantMap(t, "given back", h.m, before)
		if !slices.Equal(h.m.List(), list) {
			t.Fatalf("given back: List is %v, was %v", h.m.List(), list)
		}
	}
}

// R5: maps that came to be the same by other calls, refused ones among them, answer the same from there on.
func TestNoTrace(t *testing.T) {
	ranges := []api.Range{span(0, 3), span(5, 6), span(8, 14), span(19, 20)}
	plain, asked := mapWith(t, 20, ranges...), extent.New(20)
	wantAlloc(t, asked, 20, span(0, 20))
	for _, at := range []int{2, 0, 3, 1} {
		for _, i := range outside(20) {
			asked.Take(span(i, 5))
			asked.Give(span(5, i+1))
			asked.Is(i)
		}
		asked.Take(span(3, 5))
		asked.Alloc(20)
		asked.Alloc(0)
		asked.Alloc(math.MaxInt)
		asked.List()
		asked.Free()
		wantGive(t, asked, ranges[at], api.OK)
		asked.Give(ranges[at])
	}
	wantRanges(t, "asked", asked, 20, ranges...)
	for k := range 7 {
		r, e := plain.Alloc(k)
		wantAnyAlloc(t, asked, k, r, e)
		wantMap(t, "allocated", asked, places(20, plain.List()...))
	}
	for i := range 20 {
		wantGive(t, asked, span(i, i+1), plain.Give(span(i, i+1)))
		wantMap(t, "given", asked, places(20, plain.List()...))
	}
	wantRanges(t, "all given", asked, 20, span(0, 20))
}

// later are rows of calls behind which what was told ahead of them must be as it was.
func later() []func(m *extent.Map) {
	return []func(m *extent.Map){
		func(m *extent.Map) { m.Take(span(0, 1)) },
		func(m *extent.Map) { m.Take(span(9, 10)) },
		func(m *extent.Map) { m.Take(span(8, 11)) },
		func(m *extent.Map) { m.Give(span(2, 4)) },
		func(m *extent.Map) { m.Give(span(12, 13)) },
		func(m *extent.Map) { m.Give(span(5, 7)) },
		func(m *extent.Map) { m.Alloc(1) },
		func(m *extent.Map) { m.Alloc(3); m.Alloc(1); m.List() },
		func(m *extent.Map) {
			for i := range 16 {
				m.Give(span(i, i+1))
			}
			for i := range 8 {
				m.Take(span(2*i, 2*i+1))
			}
		},
	}
}

// R3: what List told is not changed by later calls, and the map, and another answer, are not changed by changing it, its spare room too.
func TestToldIsNew(t *testing.T) {
	for k, calls := range later() {
		for _, ranges := range [][]api.Range{
			nil,
			{span(0, 16)},
			{span(7, 12)},
			{span(0, 2), span(4, 5), span(7, 12), span(15, 16)},
			{span(0, 1), span(2, 3), span(4, 5), span(6, 7), span(8, 11), span(12, 13), span(14, 15)},
		} {
			m, same := mapWith(t, 16, ranges...), mapWith(t, 16, ranges...)
			first, second, third := m.List(), m.List(), m.List()
			spoil(first)
			wantRanges(t, "spoilt", m, 16, ranges...)
			calls(m)
			calls(same)
			if !slices.Equal(second, ranges) {
				t.Errorf("calls %d: what was told is another one", k)
			}
			behind := m.List()
			spoil(first)
			spoil(second)
			if !slices.Equal(third, ranges) || !slices.Equal(behind, same.List()) {
				t.Errorf("calls %d: another answer is spoilt", k)
			}
			wantMap(t, "spoilt behind calls", m, places(16, same.List()...))
		}
	}
}

// spoil fills a list, with its spare room, with what is not free.
func spoil(list []api.Range) {
	list = list[:cap(list)]
	for i := range list {
		list[i] = span(77, 99)
	}
}
