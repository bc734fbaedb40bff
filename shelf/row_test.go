package shelf_test

import (
	"math/rand"
	"strconv"
	"strings"
	"testing"

	"weirkeep/api"
	"weirkeep/plate"
	"weirkeep/shelf"
)

// step is a write of a sector, or a Sync, if it has no text.
type step struct {
	sector int
	text   string
}

// held is a plate and a shelf, and beside them the plain list of sectors, and in which ones the blocks lie, that they are held against.
type held struct {
	t       *testing.T
	random  *rand.Rand
	plate   *plate.Plate
	shelf   *shelf.Shelf
	sectors []string
	waits   []step
	dead    bool
	left    int // so many calls are left till the power goes; none goes by, if it is 0
	keep    uint64
	blocks  map[int]api.Block // by sectors
	bad     []int
	lost    bool
	seen    map[string]int
}

func newHeld(t *testing.T, seed, size int, seen map[string]int) *held {
	h := &held{t: t, random: rand.New(rand.NewSource(int64(seed))), plate: plate.New(size), seen: seen}
	for range size {
		h.sectors = append(h.sectors, filled(""))
	}
	h.open()
	return h
}

// run lets the list's sectors go through these steps, and tells whether the power went.
func (h *held) run(steps ...step) bool {
	for _, s := range steps {
		if s.text != "" {
			h.waits = append(h.waits, s)
		}
		if h.left--; h.left == 0 {
			h.crash(h.keep)
			return true
		}
		if s.text == "" {
			h.settle(^uint64(0))
		}
	}
	return false
}

// settle lets of what waits so much take place as keep says.
func (h *held) settle(keep uint64) {
	for j, w := range h.waits {
		h.sectors[w.sector] = torn(h.sectors[w.sector], w.text, int(keep>>(4*(j%16))&15))
	}
	h.waits = nil
}

func (h *held) crash(keep uint64) {
	if !h.dead {
		h.settle(keep)
	}
	h.dead, h.left = true, 0
}

// read is the sector as it will be.
func (h *held) read(i int) string {
	text := h.sectors[i]
	for _, w := range h.waits {
		if w.sector == i {
			text = filled(w.text)
		}
	}
	return text
}

// lies tells in which sector the block of that ID lies.
func (h *held) lies(id int) (int, bool) {
	for i, b := range h.blocks {
		if b.ID == id {
			return i, true
		}
	}
	return 0, false
}

func (h *held) open() {
	s, e := shelf.Open(h.plate)
	if h.dead {
		if s != nil || e != api.ErrDead {
			h.t.Fatalf("Open: %v, %d", s, e)
		}
		return
	}
	if s == nil || e != api.OK {
		h.t.Fatalf("Open: %v, %d", s, e)
	}
	h.shelf, h.lost, h.bad, h.blocks = s, false, nil, map[int]api.Block{}
	for i := range h.sectors {
		b, ok := saidParse(h.read(i))
		if !ok && h.read(i)[0] == 1 {
			h.bad = append(h.bad, i)
			h.seen["bad"]++
		}
		if !ok {
			continue
		}
		at, there := h.lies(b.ID)
		if !there {
			h.blocks[i] = b
		} else if h.blocks[at].Ver < b.Ver {
			delete(h.blocks, at)
			h.blocks[i] = b
			h.seen["a newer one"]++
		} else if h.blocks[at].Ver == b.Ver && h.blocks[at].Data != b.Data {
			h.seen["one of the same Ver"]++
		}
	}
}

// any is a block of few IDs and versions, mostly one that may be.
func (h *held) any() api.Block {
	b := block(h.random.Intn(len(h.sectors)+2), 1+h.random.Intn(6), "0123456789abcdef"[:h.random.Intn(17)])
	if at, ok := h.lies(b.ID); ok && h.random.Intn(3) > 0 {
		b.Ver = h.blocks[at].Ver + h.random.Intn(4)
	}
	switch h.random.Intn(40) {
	case 0:
		b.ID = noIDs()[h.random.Intn(len(noIDs()))]
	case 1:
		b.Ver = wrongVers()[h.random.Intn(len(wrongVers()))]
	case 2, 3:
		b.Data = strings.Repeat("x", 17+h.random.Intn(20))
	}
	return b
}

// saidPut is Put's answer without what is written, and the sector to write to.
func (h *held) saidPut(b api.Block) (int, api.Errno) {
	if b.ID < 0 || b.ID > 255 || b.Ver < 1 || b.Ver > 1<<40 {
		return 0, api.ErrArg
	}
	if len(b.Data) > 16 {
		return 0, api.ErrLong
	}
	if h.dead || h.lost {
		return 0, api.ErrDead
	}
	if at, ok := h.lies(b.ID); ok && h.blocks[at].Ver >= b.Ver {
		return 0, api.ErrOld
	}
	for i := range h.sectors {
		if _, taken := h.blocks[i]; !taken {
			return i, api.OK
		}
	}
	return 0, api.ErrFull
}

func (h *held) put() {
	b := h.any()
	i, want := h.saidPut(b)
	if want == api.OK {
		if h.run(step{i, off(b)}, step{}, step{i, on(b)}, step{}) {
			want = api.ErrDead
			h.seen["put cut off"]++
		} else {
			if at, ok := h.lies(b.ID); ok {
				delete(h.blocks, at)
			}
			h.blocks[i] = b
		}
	}
	h.lost = h.lost || want == api.ErrDead
	wantPut(h.t, h.shelf, b, want)
	h.seen["put "+strconv.Itoa(int(want))]++
}

func (h *held) drop() {
	id := h.any().ID
	var steps []step
	for i := range h.sectors {
		if b, ok := saidParse(h.read(i)); ok && b.ID == id {
			steps = append(steps, step{i, off(b)})
		}
	}
	want := api.OK
	switch {
	case h.dead || h.lost:
		want = api.ErrDead
	case steps == nil:
		want = api.ErrNone
	case h.run(append(steps, step{})...):
		want = api.ErrDead
		h.seen["drop cut off"]++
	default:
		if at, ok := h.lies(id); ok {
			delete(h.blocks, at)
		}
		if len(steps) > 1 {
			h.seen["drop of several"]++
		}
	}
	wantDrop(h.t, h.shelf, id, want)
	h.seen["drop "+strconv.Itoa(int(want))]++
}

// meddle writes something by hand, that mostly is a record, or nearly one, and mostly opens the plate then.
func (h *held) meddle() {
	if h.dead {
		return
	}
	b := h.any()
	if _, e := h.saidPut(b); e == api.ErrArg || e == api.ErrLong {
		return
	}
	text := saidRecord(b, h.random.Intn(4)&1)
	if h.random.Intn(2) == 0 {
		text = other(text, h.random.Intn(32), byte(h.random.Intn(256)))
	}
	i := h.random.Intn(len(h.sectors))
	h.plate.Write(i, text)
	if !h.run(step{i, text}) && h.random.Intn(2) == 0 {
		h.plate.Sync()
		h.run(step{})
	}
	if h.random.Intn(4) > 0 {
		h.open()
	}
}

func (h *held) crashNow() {
	keep := h.random.Uint64()
	h.crash(keep)
	h.plate.Crash(keep)
}

func (h *held) cut() {
	h.keep = h.random.Uint64()
	n := h.random.Intn(8)
	h.plate.Cut(n, h.keep)
	if !h.dead {
		h.left = n
	}
}

// power gives the power back, and mostly opens the plate then.
func (h *held) power() {
	h.dead, h.left = false, 0
	h.plate.Power()
	if h.random.Intn(4) > 0 {
		h.open()
	} else if h.lost {
		h.seen["lost with power"]++
	}
}

// same fails, unless the shelf, and the sectors, are just as the list says.
func (h *held) same() {
	h.t.Helper()
	var blocks []api.Block
	for _, b := range h.blocks {
		blocks = append(blocks, b)
	}
	wantShelf(h.t, "a row", h.shelf, len(h.sectors), blocks...)
	wantBad(h.t, "a row", h.shelf, h.bad...)
	if h.plate.Dead() != h.dead {
		h.t.Fatalf("Dead is %t", h.plate.Dead())
	}
	if h.dead {
		return
	}
	var texts []string
	for i := range h.sectors {
		texts = append(texts, h.read(i))
	}
	wantSectors(h.t, "a row", h.plate, texts...)
}

// P9.2 to P9.4: long rows of calls of all kinds, with crashes, openings and spoilt sectors between, held against a plain list.
func TestRows(t *testing.T) {
	seen := map[string]int{}
	for seed := range 60 {
		h := newHeld(t, seed, []int{4, 5, 8, 20}[seed%4], seen)
		calls := []func(){h.put, h.put, h.put, h.put, h.put, h.put, h.put, h.put, h.drop, h.drop, h.drop, h.open, h.crashNow, h.cut, h.power}
		if seed%3 > 0 {
			calls = append(calls, h.meddle, h.meddle, h.meddle)
		}
		for range 1000 {
			if h.dead && h.random.Intn(4) == 0 {
				h.power()
			} else {
				calls[h.random.Intn(len(calls))]()
			}
			h.same()
		}
	}
	for _, what := range []string{"put 0", "put 1", "put 2", "put 5", "put 11", "put 70", "put cut off", "drop 0", "drop 3", "drop 70", "drop cut off", "drop of several", "bad", "a newer one", "one of the same Ver", "lost with power"} {
		if seen[what] < 100 {
			t.Errorf("%s: %d times: the rows are too much alike", what, seen[what])
		}
	}
}

// P9.4: rows of Puts and Drops alone, of which each may be cut off: on the shelf that is opened then each other block lies as it did, a block that was put as it did or as it should, and a block that was dropped does not.
func TestRowsLast(t *testing.T) {
	for seed := range 200 {
		h := newHeld(t, seed, 4+seed%5, map[string]int{})
		for range 200 {
			was := map[int]api.Block{}
			for _, b := range h.shelf.List() {
				was[b.ID] = b
			}
			now := h.any()
			if h.random.Intn(2) == 0 {
				h.plate.Cut(1+h.random.Intn(5), h.random.Uint64())
			}
			e := h.shelf.Put(now)
			h.plate.Crash(h.random.Uint64())
			h.plate.Power()
			h.shelf = openOf(t, h.plate)
			for id := range 256 {
				got, _ := h.shelf.Get(id)
				should := id == now.ID && got == now && (e == api.OK || e == api.ErrDead)
				if got != was[id] && !should || id == now.ID && e == api.OK && !should {
					t.Fatalf("Put(%v): %d: block %d is %v, was %v", now, e, id, got, was[id])
				}
			}
			if id := h.any().ID; h.random.Intn(6) == 0 && h.shelf.Drop(id) == api.OK {
				h.plate.Crash(h.random.Uint64())
				h.plate.Power()
				h.shelf = openOf(t, h.plate)
				if got, e := h.shelf.Get(id); e != api.ErrNone {
					t.Fatalf("Drop(%d): %v is there", id, got)
				}
			}
		}
	}
}

// R5: what is refused, and what only tells, leaves no trace in the answers behind it.
func TestNoTrace(t *testing.T) {
	blocks := []api.Block{block(7, 1, "a"), block(8, 1, "b"), block(7, 2, "c"), block(255, 9, "d")}
	p, plain := shelfOf(t, 6, blocks...)
	q, asked := shelfOf(t, 6, blocks...)
	for n := range 20 {
		asked.Put(block(256, 1, ""))
		asked.Put(block(7, 3, long))
		asked.Put(block(255, 9, ""))
		asked.Drop(100 + n)
		asked.Get(n)
		asked.List()
		asked.Bad()
		for _, s := range []*shelf.Shelf{plain, asked} {
			s.Drop(n)
			wantPut(t, s, block(30+n%2, n+1, "x"), api.OK)
		}
	}
	wantShelf(t, "asked", asked, 6, plain.List()...)
	var texts []string
	for i := range 6 {
		text, _ := p.Read(i)
		texts = append(texts, text)
	}
	wantSectors(t, "asked", q, texts...)
	if p.Calls() != q.Calls() {
		t.Errorf("%d calls, want %d", q.Calls(), p.Calls())
	}
}
