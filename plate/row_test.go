package plate_test

import (
	"fmt"
	"math"
	"math/rand"
	"slices"
	"strconv"
	"testing"

	"weirkeep/api"
	"weirkeep/plate"
)

// waiting is a write that waits.
type waiting struct {
	i int
	s string
}

// held is a plate, and beside it the plain list of sectors, and of writes that wait, that it is held against.
type held struct {
	t       *testing.T
	random  *rand.Rand
	plate   *plate.Plate
	sectors []string
	waits   []waiting
	dead    bool
	calls   int
	last    int // the number of the call that is the last one; none, if it is not above calls
	keep    uint64
	seen    map[string]int
}

func newHeld(t *testing.T, seed, size int, seen map[string]int) *held {
	h := &held{t: t, random: rand.New(rand.NewSource(int64(seed))), plate: plate.New(size), seen: seen}
	for range size {
		h.sectors = append(h.sectors, filled(""))
	}
	return h
}

// saidParts are the sectors behind a Crash: keep's digits of the base 16, from the last one on, tell the parts.
func saidParts(sectors []string, waits []waiting, keep uint64) []string {
	sectors = slices.Clone(sectors)
	digits := fmt.Sprintf("%016x", keep)
	for j, w := range waits {
		digit := digits[15-j%16]
		part, _ := strconv.ParseInt(string(digit), 16, 0)
		bytes := []byte(sectors[w.i])
		for place := range bytes {
			if digit == 'f' || place < int(part+part) {
				bytes[place] = w.s[place]
			}
		}
		sectors[w.i] = string(bytes)
	}
	return sectors
}

// saidRead is what Read tells of each sector with power.
func saidRead(sectors []string, waits []waiting) []string {
	sectors = slices.Clone(sectors)
	for _, w := range waits {
		sectors[w.i] = w.s
	}
	return sectors
}

func (h *held) lose(keep uint64) {
	if !h.dead {
		h.sectors = saidParts(h.sectors, h.waits, keep)
		h.waits = nil
		h.dead = true
	}
}

// counted counts a call, and tells its answer.
func (h *held) counted() api.Errno {
	h.calls++
	if h.calls != h.last {
		return api.OK
	}
	h.lose(h.keep)
	h.seen["cut"]++
	return api.ErrDead
}

// place is one that there is, mostly, or one just or far outside.
func (h *held) place() int {
	size := len(h.sectors)
	if h.random.Intn(12) == 0 {
		return []int{-1, -size, size, size + 1, 128, math.MinInt, math.MaxInt, 1 << 32}[h.random.Intn(8)]
	}
	return h.random.Intn(size)
}

func (h *held) text() string {
	length := h.random.Intn(33)
	switch h.random.Intn(8) {
	case 0:
		length = 32
	case 1:
		length = []int{0, 33, 34, 1000}[h.random.Intn(4)]
	}
	b := make([]byte, length)
	h.random.Read(b)
	return string(b)
}

func (h *held) write() {
	i, s := h.place(), h.text()
	want := api.OK
	switch {
	case h.dead:
		want = api.ErrDead
	case i < 0 || i >= len(h.sectors):
		want = api.ErrRange
	case len(s) > 32:
		want = api.ErrLong
	default:
		h.waits = append(h.waits, waiting{i, filled(s)})
		want = h.counted()
	}
	wantWrite(h.t, h.plate, i, s, want)
	h.seen["write "+strconv.Itoa(int(want))]++
}

func (h *held) sync() {
	want := api.ErrDead
	if !h.dead {
		count := len(h.waits)
		want = h.counted()
		if want == api.OK {
			h.sectors = saidRead(h.sectors, h.waits)
			h.waits = nil
			if count > 16 {
				h.seen["many synced"]++
			}
		}
	}
	wantSync(h.t, h.plate, want)
}

func (h *held) crash() {
	keep := h.random.Uint64()
	if len(h.waits) > 16 {
		h.seen["many crashed"]++
	}
	if h.dead {
		h.seen["crashed dead"]++
	}
	h.lose(keep)
	h.plate.Crash(keep)
}

func (h *held) cut() {
	n, keep := h.random.Intn(20)-2, h.random.Uint64()
	if h.last > h.calls {
		h.seen["cut anew"]++
	}
	h.last, h.keep = 0, keep
	if n > 0 {
		h.last = h.calls + n
	}
	h.plate.Cut(n, keep)
}

func (h *held) power() {
	if h.dead {
		h.seen["power back"]++
	} else if len(h.waits) > 0 && h.last > h.calls {
		h.seen["power with an order"]++
	}
	h.dead, h.last = false, 0
	h.plate.Power()
}

// same fails, unless the plate tells just what the list does.
func (h *held) same() {
	h.t.Helper()
	wantState(h.t, "a row", h.plate, h.calls, h.dead)
	if h.plate.Size() != len(h.sectors) {
		h.t.Fatalf("Size is %d, want %d", h.plate.Size(), len(h.sectors))
	}
	for i, s := range saidRead(h.sectors, h.waits) {
		if h.dead {
			wantNoRead(h.t, h.plate, i, api.ErrDead)
		} else {
			wantRead(h.t, "a row", h.plate, i, s)
		}
	}
	if !h.dead {
		wantNoRead(h.t, h.plate, -1, api.ErrRange)
		wantNoRead(h.t, h.plate, len(h.sectors), api.ErrRange)
	}
}

// P7.1 to P7.4: long rows of calls of all kinds, of which some let many writes wait, held against a plain list.
func TestRows(t *testing.T) {
	seen := map[string]int{}
	for seed := range 120 {
		h := newHeld(t, seed, []int{4, 5, 16, 128}[seed%4], seen)
		calls := []func(){h.write, h.write, h.write, h.sync, h.power, h.cut}
		if seed%3 == 0 {
			for range 60 {
				calls = append(calls, h.write)
			}
		} else {
			calls = append(calls, h.write, h.write, h.crash)
		}
		for range 1000 {
			if h.dead && h.random.Intn(3) == 0 {
				h.power()
			} else if h.random.Intn(60) == 0 {
				h.crash()
			} else {
				calls[h.random.Intn(len(calls))]()
			}
			h.same()
		}
	}
	for _, what := range []string{"write 0", "write 11", "write 70", "write 71", "cut", "cut anew", "many synced", "many crashed", "crashed dead", "power back", "power with an order"} {
		if seen[what] < 200 {
			t.Errorf("%s: %d times: the rows are too much alike", what, seen[what])
		}
	}
}

// P7.3: whatever keep is, each sector is behind a Crash what the list says, with writes of few and of many sectors.
func TestCrashes(t *testing.T) {
	for seed := range 2000 {
		h := newHeld(t, seed, 4+seed%9, map[string]int{})
		for range h.random.Intn(12) {
			h.write()
		}
		h.sync()
		for range h.random.Intn(50) {
			h.write()
		}
		if seed%2 == 0 {
			h.crash()
		} else {
			h.last, h.keep = h.calls+1, h.random.Uint64()
			h.plate.Cut(1, h.keep)
			h.sync()
		}
		h.same()
		h.power()
		h.same()
	}
}

// R5: what is refused, and what only tells, leaves no trace in the answers behind it.
func TestNoTrace(t *testing.T) {
	plain, asked := plateOf(t, 9, "one", "two", "three"), plateOf(t, 9, "one", "two", "three")
	for n := range 40 {
		for _, i := range outside(9) {
			asked.Write(i, "x")
			asked.Read(i)
		}
		asked.Write(n%9, numbered(n, 33))
		asked.Cut(1, 0)
		asked.Cut(0, math.MaxUint64)
		asked.Read(n % 9)
		for _, p := range []*plate.Plate{plain, asked} {
			wantWrite(t, p, n%5, numbered(n, n%33), api.OK)
		}
	}
	for _, p := range []*plate.Plate{plain, asked} {
		p.Crash(0x123456789abcdef0)
	}
	asked.Crash(math.MaxUint64)
	asked.Write(0, "x")
	asked.Sync()
	asked.Read(0)
	for _, p := range []*plate.Plate{plain, asked} {
		p.Power()
	}
	wantState(t, "asked", asked, plain.Calls(), false)
	for i := range 9 {
		s, _ := plain.Read(i)
		wantRead(t, "asked", asked, i, s)
	}
}
