package shelf_test

import (
	"testing"

	"weirkeep/api"
)

// wantDrop fails, unless Drop is refused by that error, and nothing changes.
func (r *refused) wantDrop(id int, want api.Errno) {
	r.t.Helper()
	calls, dead := r.plate.Calls(), r.plate.Dead()
	wantDrop(r.t, r.shelf, id, want)
	if r.plate.Calls() != calls {
		r.t.Fatalf("Drop(%d): %d calls", id, r.plate.Calls()-calls)
	}
	wantShelf(r.t, "no drop", r.shelf, r.plate.Size(), r.blocks...)
	wantBad(r.t, "no drop", r.shelf, r.bad...)
	if !dead {
		wantSectors(r.t, "no drop", r.plate, r.texts...)
	}
}

// P9.3: ErrNone of what is not there, and of numbers that no block has.
func TestDropNone(t *testing.T) {
	for _, spare := range []int{3, 0} {
		r := refuses(t, spare, four()...)
		for _, id := range append(noIDs(), 1, 2, 6, 9, 128, 254) {
			r.wantDrop(id, api.ErrNone)
		}
	}
	p := plateOf(t, 4, off(block(1, 1, "a")), other(on(block(1, 2, "b")), 20, 1), "\x01\x01")
	s := openOf(t, p)
	calls := p.Calls()
	for id := range 256 {
		wantDrop(t, s, id, api.ErrNone)
	}
	if p.Calls() != calls {
		t.Errorf("%d calls", p.Calls()-calls)
	}
}

// P9.3: ErrDead, ahead of ErrNone, without power, and behind a Put that answered it.
func TestDropDead(t *testing.T) {
	r := refuses(t, 3, four()...)
	r.plate.Crash(0)
	for _, id := range []int{0, 255, 1, -1, 256} {
		r.wantDrop(id, api.ErrDead)
	}
	r.want(block(9, 1, ""), api.ErrDead)
	r.plate.Power()
	for _, id := range []int{0, 255, 1, -1, 256} {
		r.wantDrop(id, api.ErrDead)
	}
	wantShelf(t, "opened anew", openOf(t, r.plate), r.plate.Size(), four()...)
}

// P9.3: only a Put's ErrDead stays: what Drop answered without power, and Put of a block that may not be, doesn't.
func TestDropNotLost(t *testing.T) {
	r := refuses(t, 3, four()...)
	r.plate.Crash(0)
	r.wantDrop(0, api.ErrDead)
	r.want(block(256, 1, ""), api.ErrArg)
	r.plate.Power()
	r.wantDrop(1, api.ErrNone)
	wantDrop(t, r.shelf, 0, api.OK)
	wantPut(t, r.shelf, block(0, 1, ""), api.OK)
}

// P9.3: what lies in one sector: its mark is 0 then, its other bytes are as they are; its sector is free.
func TestDropOne(t *testing.T) {
	for at, gone := range four() {
		r := refuses(t, 3, four()...)
		calls := r.plate.Calls()
		wantDrop(t, r.shelf, gone.ID, api.OK)
		if got := r.plate.Calls() - calls; got != 2 {
			t.Errorf("%d calls, want a Write and a Sync", got)
		}
		left := append(four()[:at], four()[at+1:]...)
		wantShelf(t, "dropped", r.shelf, r.plate.Size(), left...)
		r.texts[at] = off(gone)
		wantLasting(t, "dropped", r.plate, r.texts...)
		wantDrop(t, r.shelf, gone.ID, api.ErrNone)
		s := openOf(t, r.plate)
		wantShelf(t, "opened anew", s, r.plate.Size(), left...)
		wantDrop(t, s, gone.ID, api.ErrNone)
		wantPut(t, s, block(gone.ID, 1, "new"), api.OK)
		r.texts[at] = on(block(gone.ID, 1, "new"))
		wantSectors(t, "put anew", r.plate, r.texts...)
	}
}

// several are sectors of which many hold a block 7, and the numbers of those.
func several() ([]string, []int) {
	return []string{
		on(block(7, 5, "same")), on(block(9, 1, "other")), on(block(7, 4, "elder")), on(block(7, 6, "lies")), off(block(7, 9, "marked 0")),
		other(on(block(7, 8, "spoilt")), 3, 1), on(block(7, 6, "same")), "", on(block(7, 6, "lies")), on(block(8, 7, "7")), on(block(7, 1, "")),
	}, []int{0, 2, 3, 6, 8, 10}
}

// unmarked are the texts, those at these places with the mark 0.
func unmarked(texts []string, places ...int) []string {
	all := append([]string{}, texts...)
	for _, i := range places {
		all[i] = other(all[i], 0, 1)
	}
	return all
}

// P9.3: what lies in several sectors, elder ones and ones of the same Ver: each one's mark is 0 then, and no other one's.
func TestDropSeveral(t *testing.T) {
	texts, places := several()
	p := plateOf(t, 12, texts...)
	s := openOf(t, p)
	wantShelf(t, "opened", s, 12, block(7, 6, "lies"), block(8, 7, "7"), block(9, 1, "other"))
	calls := p.Calls()
	wantDrop(t, s, 7, api.OK)
	if got := p.Calls() - calls; got != len(places)+1 {
		t.Errorf("%d calls, want a Write of each and a Sync", got)
	}
	wantShelf(t, "dropped", s, 12, block(8, 7, "7"), block(9, 1, "other"))
	wantBad(t, "dropped", s, 5)
	want := unmarked(texts, places...)
	wantLasting(t, "dropped", p, want...)
	again := openOf(t, p)
	wantShelf(t, "opened anew", again, 12, block(8, 7, "7"), block(9, 1, "other"))
	wantDrop(t, again, 7, api.ErrNone)
	wantPut(t, again, block(7, 1, "new"), api.OK)
	wantShelf(t, "put anew", openOf(t, p), 12, block(7, 1, "new"), block(8, 7, "7"), block(9, 1, "other"))
}

// P9.3: elder ones that Puts of this shelf left are dropped too.
func TestDropWhatPutLeft(t *testing.T) {
	p, s := shelfOf(t, 6, block(9, 1, "z"), block(7, 1, "a"), block(8, 1, "x"), block(7, 2, "b"), block(8, 2, "y"))
	left := []string{on(block(9, 1, "z")), on(block(8, 2, "y")), on(block(8, 1, "x")), on(block(7, 2, "b"))}
	wantSectors(t, "put", p, left...)
	wantDrop(t, s, 8, api.OK)
	wantLasting(t, "dropped", p, unmarked(left, 1, 2)...)
	wantShelf(t, "opened anew", openOf(t, p), 6, block(7, 2, "b"), block(9, 1, "z"))
}

// P9.4: what was dropped is on no shelf that is opened behind it, whatever is put then, and a new one of whatever Ver may be put.
func TestDropStays(t *testing.T) {
	for _, ver := range []int{1, 2, 4, 5, 6, 1 << 40} {
		texts, _ := several()
		p := plateOf(t, 12, texts...)
		wantDrop(t, openOf(t, p), 7, api.OK)
		s := openOf(t, p)
		blocks := []api.Block{block(8, 7, "7"), block(9, 1, "other")}
		for n := range 5 {
			b := block(20+n, 1, "more")
			wantPut(t, s, b, api.OK)
			blocks = append(blocks, b)
			s = openOf(t, p)
			wantShelf(t, "more", s, 12, blocks...)
		}
		wantPut(t, s, block(7, ver, "new"), api.OK)
		wantPut(t, s, block(7, ver, ""), api.ErrOld)
		wantShelf(t, "new", openOf(t, p), 12, append(blocks, block(7, ver, "new"))...)
	}
}

// P9.3: sectors are read as they are then: what came behind Open is dropped, too, and what is spoilt, or gone, is not.
func TestDropAsRead(t *testing.T) {
	p, s := shelfOf(t, 6, block(7, 1, "a"), block(8, 1, "b"))
	p.Write(0, other(on(block(7, 1, "a")), 13, 1))
	p.Write(3, on(block(9, 1, "c")))
	p.Sync()
	p.Write(4, on(block(9, 2, "d")))
	wantDrop(t, s, 7, api.ErrNone)
	wantDrop(t, s, 9, api.OK)
	wantShelf(t, "dropped", s, 6, block(7, 1, "a"), block(8, 1, "b"))
	texts := []string{other(on(block(7, 1, "a")), 13, 1), on(block(8, 1, "b")), "", off(block(9, 1, "c")), off(block(9, 2, "d"))}
	wantLasting(t, "dropped", p, texts...)
	p.Write(1, "")
	wantDrop(t, s, 8, api.ErrNone)
	wantShelf(t, "not dropped", s, 6, block(7, 1, "a"), block(8, 1, "b"))
}

// P9.3: full plates have room behind a Drop, as much as the block took.
func TestDropFull(t *testing.T) {
	p, s := shelfOf(t, 4, four()...)
	for i, gone := range four() {
		wantDrop(t, s, gone.ID, api.OK)
		wantPut(t, s, block(20+i, 1, "new"), api.OK)
		wantPut(t, s, block(30+i, 1, "new"), api.ErrFull)
	}
	wantShelf(t, "all anew", openOf(t, p), 4, block(20, 1, "new"), block(21, 1, "new"), block(22, 1, "new"), block(23, 1, "new"))
}
