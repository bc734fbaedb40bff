package shelf_test

import (
	"slices"
	"testing"

	"weirkeep/api"
	"weirkeep/plate"
	"weirkeep/shelf"
)

// keeps are all that the first bits of keep may be, the others 0, and 1.
func keeps() []uint64 {
	var list []uint64
	for share := range uint64(16) {
		list = append(list, share, ^uint64(15)|share)
	}
	return list
}

// cut is a Put in which the power may go: what is there, the sector that it takes, and the blocks beside its own.
type cut struct {
	what   string
	texts  []string
	sector int
	elder  []api.Block // of the same ID: one, or none
	others []api.Block
}

// cuts are situations of a Put of block 7, version 9; in each one two of the sectors hold a block 1 and a block 2.
func cuts() []cut {
	newer, older := block(1, 5, "newer"), block(1, 4, "older")
	two := block(2, 1, "0123456789abcdef")
	elder := block(7, 8, "elder")
	others := []api.Block{newer, two}
	return []cut{
		{"an empty sector", []string{on(newer), on(two), "", ""}, 2, nil, others},
		{"an empty sector, and an elder one", []string{on(newer), on(two), on(elder), ""}, 3, []api.Block{elder}, others},
		{"the lowest sector", []string{"", on(newer), on(elder), on(two)}, 0, []api.Block{elder}, others},
		{"another one's elder record", []string{on(newer), on(older), on(elder), on(two)}, 1, []api.Block{elder}, others},
		{"an elder record of its own", []string{on(newer), on(block(7, 3, "eldest")), on(elder), on(two)}, 1, []api.Block{elder}, others},
		{"a record of the elder one's Ver", []string{on(newer), on(elder), on(two), on(block(7, 8, "same"))}, 3, []api.Block{elder}, others},
		{"a record of another one's Ver", []string{on(newer), on(block(1, 5, "same")), on(two), ""}, 1, nil, others},
		{"a dropped record", []string{on(newer), on(two), off(block(3, 7, "dropped")), ""}, 2, nil, others},
		{"a dropped record of its own", []string{on(newer), on(two), off(block(7, 20, "dropped")), ""}, 2, nil, others},
		{"the same record, dropped", []string{on(newer), on(two), off(block(7, 9, "new")), ""}, 2, nil, others},
		{"a spoilt sector", []string{on(newer), other(on(block(7, 9, "new")), 31, 1), on(elder), on(two)}, 1, []api.Block{elder}, others},
		{"a sector of something", []string{"something", on(newer), on(elder), on(two)}, 0, []api.Block{elder}, others},
	}
}

// open makes the plate and the shelf of the situation.
func (c cut) open(t *testing.T) (*plate.Plate, *shelf.Shelf) {
	t.Helper()
	p := plateOf(t, 4, c.texts...)
	s := openOf(t, p)
	wantShelf(t, c.what, s, 4, append(c.others, c.elder...)...)
	return p, s
}

// behind is what the sectors are, when the power went in the n-th call and of the write that waited a share took place.
func (c cut) behind(b api.Block, n, share int) []string {
	there, written := c.texts[c.sector], off(b)
	if n > 2 {
		there, written = off(b), on(b)
	}
	texts := slices.Clone(c.texts)
	texts[c.sector] = torn(there, written, share)
	return texts
}

// P9.3, P9.4: the power goes at each of Put's calls, with each keep: each other block is as it was, that one as it was or as it should; ErrDead from then on.
func TestPutCutOff(t *testing.T) {
	b := block(7, 9, "new")
	for _, c := range cuts() {
		for n := 1; n <= 4; n++ {
			for _, keep := range keeps() {
				p, s := c.open(t)
				p.Cut(n, keep)
				wantPut(t, s, b, api.ErrDead)
				was := append(c.others, c.elder...)
				wantShelf(t, c.what+": cut off", s, 4, was...)
				wantPut(t, s, block(7, 10, ""), api.ErrDead)
				wantDrop(t, s, 1, api.ErrDead)
				p.Power()
				wantSectors(t, c.what, p, c.behind(b, n, int(keep&15))...)
				wantPut(t, s, block(7, 10, ""), api.ErrDead)
				wantDrop(t, s, 1, api.ErrDead)
				wantSectors(t, c.what, p, c.behind(b, n, int(keep&15))...)
				if n > 2 && keep&15 > 0 {
					was = append(slices.Clone(c.others), b)
				}
				wantShelf(t, c.what+": opened anew", openOf(t, p), 4, was...)
			}
		}
	}
}

// P9.3: if Put answered OK, the block is there for sure, whatever keep is.
func TestPutCutBehind(t *testing.T) {
	b := block(7, 9, "new")
	for _, c := range cuts() {
		for _, keep := range keeps() {
			p, s := c.open(t)
			p.Cut(5, keep)
			wantPut(t, s, b, api.OK)
			now := append(slices.Clone(c.others), b)
			wantShelf(t, c.what, s, 4, now...)
			p.Sync()
			if !p.Dead() {
				t.Fatal("Put made more than four calls")
			}
			p.Power()
			wantShelf(t, c.what+": opened anew", openOf(t, p), 4, now...)
		}
	}
}

// The document's example, and Puts that are cut off one behind the other, each on a shelf that is opened anew.
func TestPutCutOften(t *testing.T) {
	for _, keep := range keeps() {
		p, s := shelfOf(t, 4, block(3, 1, "a"), block(5, 1, "other"))
		was := block(3, 1, "a")
		for ver := 2; ver < 40; ver++ {
			n := ver%4 + 1
			p.Cut(n, keep)
			wantPut(t, s, block(3, ver, "b"), api.ErrDead)
			p.Power()
			s = openOf(t, p)
			if n > 2 && keep&15 > 0 {
				was = block(3, ver, "b")
			}
			wantShelf(t, "cut often", s, 4, was, block(5, 1, "other"))
		}
	}
}

// dropCut lets the power go in the n-th call of a Drop of the block 7 of several, and tells the plate and the shelf.
func dropCut(t *testing.T, n int, keep uint64) (*plate.Plate, *shelf.Shelf) {
	t.Helper()
	texts, places := several()
	p := plateOf(t, 12, texts...)
	s := openOf(t, p)
	p.Cut(n, keep)
	wantDrop(t, s, 7, api.ErrDead)
	wantShelf(t, "cut off", s, 12, block(7, 6, "lies"), block(8, 7, "7"), block(9, 1, "other"))
	p.Power()
	var gone []int
	for j, i := range places[:min(n, len(places))] {
		if keep>>(4*j)&15 > 0 {
			gone = append(gone, i)
		}
	}
	wantSectors(t, "cut off", p, unmarked(texts, gone...)...)
	return p, s
}

// P9.3: the power goes at each of Drop's calls: of the sectors, written from the lowest on, those that took place have mark 0; each other block is as it was.
func TestDropCutOff(t *testing.T) {
	for n := 1; n <= 7; n++ {
		for _, keep := range append(keeps(), 0x010101, 0x101010, 0xf0f0f0, 0x111000, 0x000111, 0x001000, 0x110111, 0x111111) {
			p, _ := dropCut(t, n, keep)
			blocks := []api.Block{block(8, 7, "7"), block(9, 1, "other")}
			highest := api.Block{}
			for i := range 12 {
				text, _ := p.Read(i)
				if b, ok := saidParse(text); ok && b.ID == 7 && b.Ver > highest.Ver {
					highest = b
				}
			}
			if highest.Ver > 0 {
				blocks = append(blocks, highest)
			}
			s := openOf(t, p)
			wantShelf(t, "opened anew", s, 12, blocks...)
			if highest.Ver > 0 {
				wantDrop(t, s, 7, api.OK)
			}
			wantShelf(t, "dropped anew", openOf(t, p), 12, block(8, 7, "7"), block(9, 1, "other"))
		}
	}
}

// P9.3: a Drop that answered OK lasts, whatever keep is.
func TestDropCutBehind(t *testing.T) {
	texts, places := several()
	for _, keep := range keeps() {
		p := plateOf(t, 12, texts...)
		s := openOf(t, p)
		p.Cut(len(places)+2, keep)
		wantDrop(t, s, 7, api.OK)
		p.Crash(keep)
		p.Power()
		wantSectors(t, "dropped", p, unmarked(texts, places...)...)
	}
}

// P9.3: a Drop that was cut off is no Put that answered ErrDead: with power again it may be called anew.
func TestDropCutOffAnew(t *testing.T) {
	texts, places := several()
	for n := 1; n <= 7; n++ {
		p, s := dropCut(t, n, 0x101)
		wantDrop(t, s, 7, api.OK)
		wantSectors(t, "dropped anew", p, unmarked(texts, places...)...)
		wantShelf(t, "dropped anew", s, 12, block(8, 7, "7"), block(9, 1, "other"))
		wantPut(t, s, block(7, 1, "new"), api.OK)
	}
}
