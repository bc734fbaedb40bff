package shelf

import (
	"errors"
	"slices"
	"strings"

	"weirkeep/api"
	"weirkeep/plate"
)

// sectors tells the bytes of all sectors of a plate that has power, as they are read.
func sectors(p *plate.Plate) []string {
	all := make([]string, p.Size())
	for i := range all {
		all[i], _ = p.Read(i)
	}
	return all
}

// note takes the sector i, in which no block lies, for a bad one, if it is marked.
func (s *Shelf) note(i int, text string) {
	if strings.HasPrefix(text, marked) {
		s.bad = append(s.bad, i)
	}
}

// isNew tells whether no block of b's ID lies there that is as new as b.
func (s *Shelf) isNew(b api.Block) bool {
	elder, ok := s.places[b.ID]
	return !ok || elder.block.Ver < b.Ver
}

// dead tells whether nothing can be written.
func (s *Shelf) dead() bool { return s.lost || s.plate.Dead() }

// refusals joins all that is in the way of putting b.
func (s *Shelf) refusals(b api.Block) error {
	return errors.Join(
		wrong(b, 1),
		unless(!s.dead(), api.ErrDead),
		unless(s.isNew(b), api.ErrOld),
		unless(s.Free() > 0, api.ErrFull),
	)
}

// lowest tells the lowest sector that is free.
func (s *Shelf) lowest() int {
	var taken [api.Sectors]bool
	for _, at := range s.places {
		taken[at.sector] = true
	}
	return slices.Index(taken[:], false)
}

// write lets b lie in the sector i. Nothing of it counts till the mark is written, and then no byte but the mark is another one than what lasts already: there is nothing to be torn.
func (s *Shelf) write(b api.Block, i int) api.Errno {
	for mark := range 2 {
		text, e := Record(b, mark)
		if e == api.OK {
			e = s.plate.Write(i, text)
		}
		if e == api.OK {
			e = s.plate.Sync()
		}
		if e != api.OK {
			return e
		}
	}
	s.places[b.ID] = place{block: b, sector: i}
	return api.OK
}
