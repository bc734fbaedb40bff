package shelf_test

import (
	"math"
	"strings"
	"testing"

	"weirkeep/api"
	"weirkeep/plate"
	"weirkeep/shelf"
)

// P9.3: what is put lies there, in the place of the elder one; Get, List and Free behind each call.
func TestPut(t *testing.T) {
	p, s := shelfOf(t, 4)
	wantPut(t, s, block(255, 1, ""), api.OK)
	wantShelf(t, "one", s, 4, block(255, 1, ""))
	wantPut(t, s, block(0, 1<<40, "0123456789abcdef"), api.OK)
	wantShelf(t, "two", s, 4, block(255, 1, ""), block(0, 1<<40, "0123456789abcdef"))
	wantPut(t, s, block(255, 2, "new"), api.OK)
	wantShelf(t, "a newer one", s, 4, block(255, 2, "new"), block(0, 1<<40, "0123456789abcdef"))
	wantPut(t, s, block(255, 1<<40, "newest"), api.OK)
	wantPut(t, s, block(3, 7, "\x00"), api.OK)
	wantPut(t, s, block(4, 7, "\x00\x00"), api.OK)
	last := []api.Block{block(0, 1<<40, "0123456789abcdef"), block(3, 7, "\x00"), block(4, 7, "\x00\x00"), block(255, 1<<40, "newest")}
	wantShelf(t, "full", s, 4, last...)
	wantBad(t, "full", s)
	wantShelf(t, "opened anew", openOf(t, p), 4, last...)
}

// P9.3: the lowest sector that is free is taken, and Record with mark 1 lies in it then; the elder one's sector stays as it is, and is free.
func TestPutSector(t *testing.T) {
	p, s := shelfOf(t, 5)
	a1, a2, a3, a4 := block(7, 1, "a1"), block(7, 2, "a2"), block(7, 3, "a3"), block(7, 4, "a4")
	b1, b2, c1 := block(9, 1, "b1"), block(9, 2, "b2"), block(3, 1, "c1")
	for _, c := range []struct {
		put  api.Block
		want []string
	}{
		{a1, []string{on(a1)}},
		{b1, []string{on(a1), on(b1)}},
		{a2, []string{on(a1), on(b1), on(a2)}},
		{a3, []string{on(a3), on(b1), on(a2)}},
		{c1, []string{on(a3), on(b1), on(c1)}},
		{b2, []string{on(a3), on(b1), on(c1), on(b2)}},
		{a4, []string{on(a3), on(a4), on(c1), on(b2)}},
		{block(1, 1, ""), []string{on(block(1, 1, "")), on(a4), on(c1), on(b2)}},
		{block(2, 1, ""), []string{on(block(1, 1, "")), on(a4), on(c1), on(b2), on(block(2, 1, ""))}},
	} {
		wantPut(t, s, c.put, api.OK)
		wantSectors(t, "put", p, c.want...)
		wantLasting(t, "put", p, c.want...)
	}
	wantPut(t, s, block(1, 2, ""), api.ErrFull)
}

// P9.3: on a shelf that was opened, sectors of elder ones, of ones of the same Ver, of spoilt ones and of ones with mark 0 are free.
func TestPutSectorOpened(t *testing.T) {
	texts := []string{on(block(7, 5, "lies")), on(block(7, 4, "elder")), on(block(7, 5, "same")), "\x01spoilt", off(block(8, 1, "")), "other", on(block(9, 1, "lies"))}
	p := plateOf(t, 8, texts...)
	s := openOf(t, p)
	wantShelf(t, "opened", s, 8, block(7, 5, "lies"), block(9, 1, "lies"))
	for n, i := range []int{1, 2, 3, 4, 5, 7} {
		b := block(100+n, 1, "x")
		wantPut(t, s, b, api.OK)
		if i == 7 {
			texts = append(texts, "")
		}
		texts[i] = on(b)
		wantSectors(t, "put", p, texts...)
	}
	wantPut(t, s, block(110, 1, "x"), api.ErrFull)
	wantPut(t, s, block(7, 6, "x"), api.ErrFull)
}

// P9.3: a Put makes four calls: Record with mark 0, Sync, Record with mark 1, Sync.
func TestPutCalls(t *testing.T) {
	b, there := block(7, 5, "new"), block(7, 4, "there")
	for n, want := range []string{"", "", off(b), off(b), on(b)} {
		p, s := shelfOf(t, 4, there)
		calls := p.Calls()
		p.Cut(n+1, 0)
		e := s.Put(b)
		if got := p.Calls() - calls; got != min(n+1, 4) || (e == api.OK) != (n == 4) || e != api.OK && e != api.ErrDead {
			t.Fatalf("the power goes in call %d: %d calls, %d", n+1, got, e)
		}
		p.Crash(0)
		p.Power()
		wantSectors(t, "cut off", p, on(there), want)
	}
}

// refused is a plate and a shelf that refuse to put, and what is there.
type refused struct {
	t      *testing.T
	plate  *plate.Plate
	shelf  *shelf.Shelf
	blocks []api.Block
	texts  []string
	bad    []int
}

// refuses makes a plate of a sector for each of these blocks, of spare ones, and of a bad one, that is free.
func refuses(t *testing.T, spare int, blocks ...api.Block) *refused {
	r := &refused{t: t, blocks: blocks}
	for _, b := range blocks {
		r.texts = append(r.texts, on(b))
	}
	if spare > 0 {
		r.bad = []int{len(r.texts)}
		r.texts = append(r.texts, "\x01spoilt")
	}
	r.plate = plateOf(t, len(r.texts)+max(spare-1, 0), r.texts...)
	r.shelf = openOf(t, r.plate)
	return r
}

// want fails, unless b is refused by that error, and nothing changes.
func (r *refused) want(b api.Block, want api.Errno) {
	r.t.Helper()
	calls, dead := r.plate.Calls(), r.plate.Dead()
	wantPut(r.t, r.shelf, b, want)
	if r.plate.Calls() != calls || r.plate.Dead() != dead {
		r.t.Fatalf("Put %s: %d calls", told(b), r.plate.Calls()-calls)
	}
	wantShelf(r.t, "refused", r.shelf, r.plate.Size(), r.blocks...)
	wantBad(r.t, "refused", r.shelf, r.bad...)
	if !dead {
		wantSectors(r.t, "refused", r.plate, r.texts...)
	}
}

// four are blocks that fill a plate.
func four() []api.Block {
	return []api.Block{block(0, 5, "a"), block(7, 1<<40, "b"), block(255, 1, "c"), block(8, 2, "d")}
}

var long = strings.Repeat("x", 17)

// P9.3: Record's errors, ahead of each other one.
func TestPutRecordsErrors(t *testing.T) {
	for _, spare := range []int{3, 0} {
		for _, dead := range []bool{false, true} {
			r := refuses(t, spare, four()...)
			if dead {
				r.plate.Crash(0)
			}
			for _, id := range wrongIDs() {
				r.want(block(id, 1, ""), api.ErrArg)
				r.want(block(id, 9, long), api.ErrArg)
			}
			for _, ver := range wrongVers() {
				r.want(block(0, ver, ""), api.ErrArg)
				r.want(block(9, ver, long), api.ErrArg)
			}
			for _, length := range []int{17, 18, 32, 272, 3000} {
				data := strings.Repeat("x", length)
				r.want(block(9, 1, data), api.ErrLong)
				r.want(block(0, 6, data), api.ErrLong)
				r.want(block(0, 5, data), api.ErrLong)
			}
		}
	}
}

// P9.3: ErrDead without power, ahead of ErrOld and ErrFull.
func TestPutDead(t *testing.T) {
	for _, b := range []api.Block{block(9, 1, "new"), block(0, 6, "newer"), block(0, 5, "old"), block(7, 1<<40, "b")} {
		for _, spare := range []int{3, 0} {
			r := refuses(t, spare, four()...)
			r.plate.Crash(0)
			r.want(b, api.ErrDead)
			r.want(b, api.ErrDead)
		}
	}
}

// P9.3: a Put that answered ErrDead is answered by ErrDead from then on, also where there is power again; what lies there is told still.
func TestPutLost(t *testing.T) {
	for _, spare := range []int{3, 0} {
		r := refuses(t, spare, four()...)
		r.plate.Crash(0)
		r.want(block(9, 1, "new"), api.ErrDead)
		r.plate.Power()
		for _, b := range []api.Block{block(9, 1, "new"), block(0, 6, "newer"), block(0, 5, "old"), block(7, 1<<40, "b")} {
			r.want(b, api.ErrDead)
			r.plate.Sync()
		}
		r.want(block(256, 1, ""), api.ErrArg)
		r.want(block(9, 1, long), api.ErrLong)
	}
}

// P9.3: what was refused otherwise, while there was no power, has not answered ErrDead.
func TestPutNotLost(t *testing.T) {
	r := refuses(t, 3, four()...)
	r.plate.Crash(0)
	r.want(block(-1, 1, ""), api.ErrArg)
	r.want(block(9, 1, long), api.ErrLong)
	r.plate.Power()
	r.want(block(0, 5, ""), api.ErrOld)
	wantPut(t, r.shelf, block(0, 6, ""), api.OK)
}

// P9.3: ErrOld, ahead of ErrFull, if the Ver is not above that of the block that lies there.
func TestPutOld(t *testing.T) {
	for _, spare := range []int{3, 0} {
		r := refuses(t, spare, four()...)
		for _, b := range []api.Block{block(0, 1, "x"), block(0, 4, ""), block(0, 5, "x"), block(0, 5, "a"), block(7, 1, ""), block(7, 1<<40-1, ""), block(7, 1<<40, ""), block(255, 1, "c"), block(8, 2, "")} {
			r.want(b, api.ErrOld)
		}
	}
	_, s := shelfOf(t, 6, four()...)
	wantPut(t, s, block(0, 6, ""), api.OK)
	wantPut(t, s, block(0, 6, ""), api.ErrOld)
	wantPut(t, s, block(0, 5, ""), api.ErrOld)
	wantPut(t, s, block(0, 1<<40, ""), api.OK)
	wantPut(t, s, block(0, 1<<40, "x"), api.ErrOld)
	wantPut(t, s, block(1, 1, ""), api.OK)
}

// P9.3: an elder one that is put, and lies there no more, is not in the way: the highest Ver is.
func TestPutOldOpened(t *testing.T) {
	s := openOf(t, plateOf(t, 6, on(block(7, 3, "a")), on(block(7, 9, "b")), on(block(7, 5, "c")), off(block(7, 20, "d"))))
	for ver := 1; ver <= 9; ver++ {
		wantPut(t, s, block(7, ver, ""), api.ErrOld)
	}
	wantPut(t, s, block(7, 10, "e"), api.OK)
	wantShelf(t, "newer", s, 6, block(7, 10, "e"))
}

// P9.3: ErrFull, if each sector holds a block, also for a block that lies there.
func TestPutFull(t *testing.T) {
	r := refuses(t, 0, four()...)
	for _, b := range []api.Block{block(9, 1, ""), block(0, 6, "a"), block(255, 1<<40, ""), block(1, 1<<40, "x")} {
		r.want(b, api.ErrFull)
	}
	wantDrop(t, r.shelf, 255, api.OK)
	wantPut(t, r.shelf, block(0, 6, "e"), api.OK)
	wantPut(t, r.shelf, block(0, 7, "f"), api.OK)
	wantPut(t, r.shelf, block(9, 1, "g"), api.OK)
	wantPut(t, r.shelf, block(0, 8, "h"), api.ErrFull)
	wantShelf(t, "full again", r.shelf, 4, block(0, 7, "f"), block(7, 1<<40, "b"), block(8, 2, "d"), block(9, 1, "g"))
}

// P9.3: the greatest plate is filled up to its last sector.
func TestPutMany(t *testing.T) {
	p, s := shelfOf(t, math.MaxInt)
	var blocks []api.Block
	var texts []string
	for i := range 128 {
		b := block(255-2*i, 1+i, strings.Repeat("x", i%17))
		wantPut(t, s, b, api.OK)
		blocks, texts = append(blocks, b), append(texts, on(b))
		if i%31 == 0 || i > 125 {
			wantShelf(t, "many", s, 128, blocks...)
		}
	}
	wantSectors(t, "many", p, texts...)
	wantPut(t, s, block(0, 1, ""), api.ErrFull)
	wantPut(t, s, block(255, 2, ""), api.ErrFull)
	wantShelf(t, "opened anew", openOf(t, p), 128, blocks...)
}
