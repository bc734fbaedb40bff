package shelf_test

import (
	"slices"
	"strings"
	"testing"

	"weirkeep/api"
	"weirkeep/plate"
	"weirkeep/shelf"
)

// wantNoOpen fails, unless there is no shelf, for there is no power.
func wantNoOpen(t *testing.T, p *plate.Plate) {
	t.Helper()
	if s, e := shelf.Open(p); s != nil || e != api.ErrDead {
		t.Fatalf("Open without power: %v, %d", s, e)
	}
}

// wantOpen fails, unless on a plate of that size, whose first sectors are these, just these blocks lie, and none is bad.
func wantOpen(t *testing.T, what string, texts []string, blocks ...api.Block) {
	t.Helper()
	size := max(len(texts), 4)
	s := openOf(t, plateOf(t, size, texts...))
	wantShelf(t, what, s, size, blocks...)
	wantBad(t, what, s)
}

// orders are all orders in which these texts may stand.
func orders(texts []string) [][]string {
	if len(texts) == 0 {
		return [][]string{nil}
	}
	var list [][]string
	for i, first := range texts {
		rest := append(slices.Clone(texts[:i]), texts[i+1:]...)
		for _, order := range orders(rest) {
			list = append(list, append([]string{first}, order...))
		}
	}
	return list
}

// P9.2: ErrDead without power, whatever lies there; with power again there is a shelf.
func TestOpenDead(t *testing.T) {
	for _, p := range []*plate.Plate{plate.New(4), plateOf(t, 5, on(block(1, 2, "a")), "\x01")} {
		p.Crash(0)
		wantNoOpen(t, p)
		wantNoOpen(t, p)
		p.Power()
		openOf(t, p)
		p.Cut(1, 15)
		p.Sync()
		wantNoOpen(t, p)
	}
}

// P9.2: on an empty plate, of whatever size, nothing lies.
func TestOpenEmpty(t *testing.T) {
	for _, size := range []int{4, 5, 31, 64, 127, 128} {
		p := plate.New(size)
		s := openOf(t, p)
		wantShelf(t, "empty", s, size)
		wantBad(t, "empty", s)
		if p.Calls() != 0 {
			t.Errorf("Open made %d calls", p.Calls())
		}
	}
}

// P9.2: records in any order, with empty sectors between.
func TestOpenAnyOrder(t *testing.T) {
	blocks := []api.Block{block(200, 1, "a"), block(0, 1<<40, ""), block(255, 7, "0123456789abcdef"), block(3, 258, "\x00")}
	texts := []string{"", ""}
	for _, b := range blocks {
		texts = append(texts, on(b))
	}
	for _, order := range orders(texts) {
		wantOpen(t, "any order", order, blocks...)
	}
}

// P9.2: a full plate, and the last sector of the greatest one.
func TestOpenFull(t *testing.T) {
	var blocks []api.Block
	var texts []string
	for i := range 128 {
		b := block((i*37+11)%256, i+1, strings.Repeat("x", i%17))
		blocks = append(blocks, b)
		texts = append(texts, on(b))
	}
	wantOpen(t, "full", texts, blocks...)
	for i := range texts[:127] {
		texts[i] = ""
	}
	wantOpen(t, "the last one", texts, blocks[127])
}

// P9.2: of one ID the one with the highest Ver lies there, wherever it is; the others' sectors are free.
func TestOpenHighest(t *testing.T) {
	for _, vers := range [][]int{{1, 2, 3}, {255, 256, 257}, {1<<32 - 1, 1 << 32, 1<<32 + 1}, {1, 1<<40 - 1, 1 << 40}, {2, 10, 100}} {
		var texts []string
		for i, ver := range vers {
			texts = append(texts, on(block(7, ver, "cba"[i:i+1])))
		}
		highest := block(7, vers[2], "a")
		for _, order := range orders(append(texts, on(block(8, 1, "other")), "")) {
			wantOpen(t, "unlike versions", order, highest, block(8, 1, "other"))
		}
	}
}

// P9.2: of two of one Ver that in the lower sector, whatever their Data are; a higher one is ahead of them anywhere.
func TestOpenSameVer(t *testing.T) {
	x, y := block(7, 5, "x"), block(7, 5, "y")
	wantOpen(t, "x lower", []string{"", on(x), on(y), ""}, x)
	wantOpen(t, "y lower", []string{on(y), "", "", on(x)}, y)
	wantOpen(t, "alike", []string{"", on(x), on(x), on(x)}, x)
	for _, order := range orders([]string{on(x), on(y), on(block(7, 5, "")), on(block(7, 4, "elder")), on(block(6, 5, "other"))}) {
		first := slices.IndexFunc(order, func(s string) bool { b, _ := saidParse(s); return b.ID == 7 && b.Ver == 5 })
		want, _ := saidParse(order[first])
		wantOpen(t, "one Ver", order, want, block(6, 5, "other"))
	}
	for _, order := range orders([]string{on(x), on(y), on(block(7, 6, "newer")), ""}) {
		wantOpen(t, "a newer one", order, block(7, 6, "newer"))
	}
}

// P9.2: records with mark 0 hold nothing, and are not bad, also where they are newer.
func TestOpenMarkZero(t *testing.T) {
	for _, order := range orders([]string{off(block(7, 9, "x")), on(block(7, 5, "y")), off(block(8, 1, "")), off(block(7, 5, "z"))}) {
		wantOpen(t, "mark 0", order, block(7, 5, "y"))
	}
	wantOpen(t, "mark 0 alone", []string{off(block(7, 9, "x")), off(block(0, 1, ""))})
}

// P9.2, P9.4: a sector of which one byte is another one holds no block, and is bad, if the mark is as it was.
func TestOpenSpoilt(t *testing.T) {
	b, elder := block(7, 258, "abc"), block(7, 257, "elder")
	for i := range 32 {
		for bits := 1; bits < 256; bits++ {
			texts := []string{"", other(on(b), i, byte(bits)), "", on(elder)}
			s := openOf(t, plateOf(t, 4, texts...))
			wantShelf(t, "spoilt", s, 4, elder)
			if i > 0 {
				wantBad(t, "spoilt", s, 1)
			} else {
				wantBad(t, "another mark", s)
			}
		}
	}
}

// P9.2: what waits is read as it will be.
func TestOpenWaits(t *testing.T) {
	p := plateOf(t, 5, on(block(1, 1, "a")), on(block(2, 1, "b")), on(block(3, 1, "c")))
	p.Write(0, on(block(1, 2, "d")))
	p.Write(1, "\x01spoilt")
	p.Write(4, "")
	p.Write(4, on(block(9, 1, "e")))
	s := openOf(t, p)
	wantShelf(t, "waits", s, 5, block(1, 2, "d"), block(3, 1, "c"), block(9, 1, "e"))
	wantBad(t, "waits", s, 1)
}

// P9.2: Open leaves the plate as it is.
func TestOpenTellsOnly(t *testing.T) {
	texts := []string{on(block(1, 1, "a")), on(block(1, 2, "b")), "\x01spoilt", "other", off(block(3, 1, "c"))}
	p := plateOf(t, 6, texts...)
	p.Write(5, "waits")
	calls := p.Calls()
	s := openOf(t, p)
	s.List()
	s.Bad()
	s.Free()
	s.Get(1)
	if p.Calls() != calls {
		t.Errorf("%d calls", p.Calls()-calls)
	}
	wantSectors(t, "opened", p, append(texts, "waits")...)
	wantLasting(t, "opened", p, texts...)
}

// P9.2: Bad tells all that have the mark 1 and are no record, rising.
func TestBad(t *testing.T) {
	b := block(7, 258, "abc")
	texts := []string{
		"\x01", on(b), other(on(b), 31, 1), "", other(off(b), 9, 1), "\x02", "\x01" + strings.Repeat("\xff", 31),
		other(on(b), 0, 2), off(b), "1", sealed(1, saidBody(7, 0, 0, strings.Repeat("\x00", 16))), on(block(7, 257, "")),
		sealed(1, saidBody(7, 1, 17, strings.Repeat("\x00", 16))), sealed(1, saidBody(7, 1, 0, strings.Repeat("\x00", 15)+"x")), "\x00\x01",
	}
	s := openOf(t, plateOf(t, 20, texts...))
	wantBad(t, "all kinds", s, 0, 2, 6, 10, 12, 13)
	wantShelf(t, "all kinds", s, 20, b)
	spoilt := slices.Repeat([]string{"\x01spoilt"}, 128)
	var all []int
	for i := range spoilt {
		all = append(all, i)
	}
	s = openOf(t, plateOf(t, 128, spoilt...))
	wantBad(t, "all sectors", s, all...)
	wantShelf(t, "all sectors", s, 128)
}

// P9.2: Bad stays as Open found it, whatever is called then, and whatever becomes of the sectors.
func TestBadStays(t *testing.T) {
	p := plateOf(t, 5, "\x01spoilt", on(block(1, 1, "a")), "\x01too", on(block(2, 1, "b")))
	s := openOf(t, p)
	same := func(what string) { t.Helper(); wantBad(t, what, s, 0, 2) }
	same("opened")
	wantPut(t, s, block(3, 1, "c"), api.OK)
	wantSectors(t, "put", p, on(block(3, 1, "c")), on(block(1, 1, "a")), "\x01too", on(block(2, 1, "b")))
	same("put over the first one")
	wantPut(t, s, block(3, 2, "d"), api.OK)
	same("put over the second one")
	wantDrop(t, s, 3, api.OK)
	same("dropped")
	p.Write(4, "\x01more")
	p.Sync()
	same("one more is spoilt")
	wantBad(t, "opened anew", openOf(t, p), 4)
	p.Crash(0)
	wantPut(t, s, block(3, 9, ""), api.ErrDead)
	same("without power")
}

// R3: what List and Bad told is the caller's own, with its spare room: it stays as it was, and what is done to it is not to be seen.
func TestOwnLists(t *testing.T) {
	p := plateOf(t, 6, "\x01spoilt", on(block(1, 1, "a")), "\x01too", on(block(2, 1, "b")))
	s := openOf(t, p)
	list, bad := s.List(), s.Bad()
	wantPut(t, s, block(1, 2, "c"), api.OK)
	wantPut(t, s, block(0, 1, "d"), api.OK)
	wantDrop(t, s, 2, api.OK)
	if !slices.Equal(list, []api.Block{block(1, 1, "a"), block(2, 1, "b")}) || !slices.Equal(bad, []int{0, 2}) {
		t.Errorf("told before: %v, %v", list, bad)
	}
	again, badAgain := s.List(), s.Bad()
	for _, l := range [][]api.Block{list, again} {
		clear(l[:cap(l)])
	}
	for _, l := range [][]int{bad, badAgain} {
		l = l[:cap(l)]
		for i := range l {
			l[i] = 99
		}
	}
	wantShelf(t, "changed lists", s, 6, block(0, 1, "d"), block(1, 2, "c"))
	wantBad(t, "changed lists", s, 0, 2)
	first, second := s.List(), s.List()
	clear(first[:cap(first)])
	if !slices.Equal(second, []api.Block{block(0, 1, "d"), block(1, 2, "c")}) {
		t.Errorf("two lists share memory: %v", second)
	}
}
