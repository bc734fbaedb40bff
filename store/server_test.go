package store_test

import (
	"math"
	"slices"
	"testing"

	"weirkeep/api"
	"weirkeep/plate"
	"weirkeep/shelf"
	"weirkeep/store"
)

// P13.2: a new server has power, no block, the epoch 0; nobody may write, whatever the time.
func TestNew(t *testing.T) {
	for id := range 8 {
		s := store.New(id, 4)
		if s.Dead() {
			t.Fatal("no power")
		}
		wantBlocks(t, s)
		for off := range 257 {
			m := readOf(0, off)
			m.To = id
			wantAnswer(t, s, m, 0, 0, api.ErrNone, "")
		}
		for from := range 8 {
			for _, now := range []int{math.MinInt, math.MinInt + 1, -2, -1, 0, 1, 1 << 40, math.MaxInt} {
				m := writeOf(from, 0, 0, block(5, 1, "a"))
				m.To = id
				wantNothingPut(t, s, func() { wantAnswer(t, s, m, now, 0, api.ErrFence, "") })
			}
		}
		for _, n := range []int{1, 2, 1 << 40} {
			m := writeOf(1, n, 0, block(5, 1, "a"))
			m.To = id
			wantAnswer(t, s, m, 0, 0, api.ErrEpoch, "")
		}
	}
}

// P13.2: it has so many sectors as a plate has.
func TestNewSectors(t *testing.T) {
	for _, sectors := range []int{math.MinInt, -1, 0, 1, 3, 4, 5, 6, 127, 128, 129, 1 << 32, math.MaxInt} {
		s := store.New(me, sectors)
		room := plate.New(sectors).Size()
		for id := range room {
			wantPut(t, s, block(id, 1, "x"), api.OK)
		}
		wantPut(t, s, block(200, 1, "x"), api.ErrFull)
		if len(s.List()) != room {
			t.Errorf("%d blocks of %d sectors", len(s.List()), sectors)
		}
	}
}

// P13.2: a number that is no node's is made a server of, too, but no message is to it.
func TestNewWrongNumber(t *testing.T) {
	for _, id := range []int{-1, 8, 9, 258, 1<<32 + 2, math.MinInt, math.MaxInt} {
		s := store.New(id, 4)
		wantPut(t, s, block(5, 1, "a"), api.OK)
		for to := -1; to < 10; to++ {
			m := readOf(0, 5)
			m.To = to
			wantSilence(t, s, m, 0)
			m.To = id
			wantSilence(t, s, m, 0)
		}
		s.Crash(0)
		s.Power()
		wantBlocks(t, s, block(5, 1, "a"))
	}
}

// P13.2: Get, Put, Drop and List are the shelf's, as long as there is power.
func TestBlocks(t *testing.T) {
	s := store.New(me, 4)
	wantPut(t, s, block(3, 1, "a"), api.OK)
	wantPut(t, s, block(0, 9, full), api.OK)
	wantPut(t, s, block(255, 1<<40, ""), api.OK)
	wantNothingPut(t, s, func() {
		for _, id := range []int{-1, 256, 259, math.MinInt, math.MaxInt} {
			wantPut(t, s, block(id, 1, long), api.ErrArg)
			wantDrop(t, s, id, api.ErrNone)
		}
		for _, ver := range append(wrongVers(), 0) {
			wantPut(t, s, block(3, ver, "b"), api.ErrArg)
		}
		wantPut(t, s, block(3, 2, long), api.ErrLong)
		wantPut(t, s, block(3, 1, "b"), api.ErrOld)
		wantPut(t, s, block(3, 1, "a"), api.ErrOld)
		wantDrop(t, s, 4, api.ErrNone)
	})
	wantBlocks(t, s, block(0, 9, full), block(3, 1, "a"), block(255, 1<<40, ""))
	wantPut(t, s, block(3, 2, "b"), api.OK)
	wantPut(t, s, block(4, 1, "c"), api.OK)
	wantNothingPut(t, s, func() { wantPut(t, s, block(5, 1, "d"), api.ErrFull) })
	wantBlocks(t, s, block(0, 9, full), block(3, 2, "b"), block(4, 1, "c"), block(255, 1<<40, ""))
	wantDrop(t, s, 3, api.OK)
	wantDrop(t, s, 3, api.ErrNone)
	wantBlocks(t, s, block(0, 9, full), block(4, 1, "c"), block(255, 1<<40, ""))
	wantPut(t, s, block(3, 1, "e"), api.OK)
	wantBlocks(t, s, block(0, 9, full), block(3, 1, "e"), block(4, 1, "c"), block(255, 1<<40, ""))
}

// P13.2: who may write, and in which epoch, is nothing to Put.
func TestPutNeedsNoTime(t *testing.T) {
	s := store.New(me, 4)
	wantPut(t, s, block(5, 1, "a"), api.OK)
	wantAnswer(t, s, epochOf(9), 0, 9, api.OK, "")
	wantPut(t, s, block(5, 2, "b"), api.OK)
	wantAnswer(t, s, readOf(9, 5), 0, 9, api.OK, value(2, "b"))
}

// P13.2, R3: List is new memory each time.
func TestListIsNew(t *testing.T) {
	s := serverOf(t, block(5, 1, "a"), block(6, 1, "b"))
	list := s.List()
	clear(list[:cap(list)])
	wantBlocks(t, s, block(5, 1, "a"), block(6, 1, "b"))
}

// P13.2: without power Get, Put and Drop are ErrDead, ahead of all else, and change nothing; List tells what lay there.
func TestBlocksWithoutPower(t *testing.T) {
	blocks := []api.Block{block(3, 1, "a"), block(5, 7, full)}
	s := serverOf(t, blocks...)
	s.Crash(math.MaxUint64)
	wantNothingPut(t, s, func() {
		for _, id := range []int{-1, 0, 3, 5, 255, 256, math.MinInt, math.MaxInt} {
			if b, e := s.Get(id); b != (api.Block{}) || e != api.ErrDead {
				t.Fatalf("Get(%d): %v, %d", id, b, e)
			}
			wantDrop(t, s, id, api.ErrDead)
			for _, ver := range []int{0, 1, 2, 8, 1 << 40, -1} {
				wantPut(t, s, block(id, ver, "x"), api.ErrDead)
				wantPut(t, s, block(id, ver, long), api.ErrDead)
			}
		}
	})
	if got := s.List(); !slices.Equal(got, blocks) {
		t.Errorf("List is %v", got)
	}
	s.Power()
	wantBlocks(t, s, blocks...)
}

// P13.2: behind Power the epoch is 0, nobody may write, no write is known, and the blocks are those that lasted.
func TestPower(t *testing.T) {
	s := rich(t)
	blocks := s.List()
	s.Crash(math.MaxUint64)
	s.Power()
	if s.Dead() {
		t.Fatal("no power")
	}
	wantBlocks(t, s, blocks...)
	for from := range 8 {
		for _, now := range []int{math.MinInt, -1, 0, 10} {
			wantAnswer(t, s, writeOf(from, 0, 1<<40, block(5, 9, "z")), now, 0, api.ErrFence, "")
			wantAnswer(t, s, writeOf(from, 3, 1<<40, block(5, 9, "z")), now, 0, api.ErrEpoch, "")
		}
	}
	for from := range 8 {
		wantAnswer(t, s, timeOf(from, 10), 0, 0, api.OK, "")
	}
	for from := range 5 {
		wantAnswer(t, s, writeOf(from, 0, 0, block(5, 10+from, "z")), 0, 0, api.OK, "")
	}
	wantBlocks(t, s, block(0, 1, ""), block(5, 14, "z"), block(255, 1<<40, full))
	wantAnswer(t, s, epochOf(1), 0, 1, api.OK, "")
}

// P13.2: where there is power, Power changes nothing: no epoch, no time, no known write, no block, and no order to cut it.
func TestPowerWithPower(t *testing.T) {
	wantNoTrace(t, "new", func(*testing.T) *store.Server { return store.New(me, 4) }, (*store.Server).Power)
	wantNoTrace(t, "rich", rich, (*store.Server).Power)
	for n := range 9 {
		wantNoTrace(t, "cut", func(t *testing.T) *store.Server {
			s := rich(t)
			s.Cut(n, 1)
			return s
		}, (*store.Server).Power)
	}
}

// P13.2: without power Power takes an order to cut it, as the plate's does.
func TestPowerTakesOrder(t *testing.T) {
	s := serverOf(t, block(5, 1, "a"))
	s.Crash(0)
	s.Cut(1, 0)
	s.Power()
	for ver := range 20 {
		wantPut(t, s, block(5, 2+ver, "b"), api.OK)
	}
}

// P13.2: Crash, Cut and Dead are the plate's: held against a plate and a shelf, whose calls are the same ones.
func TestCrashCutDead(t *testing.T) {
	b := block(7, 2, "new")
	for n := -1; n <= 6; n++ {
		for _, keep := range []uint64{0, 1, 14, 15, 16, math.MaxUint64, math.MaxUint64 - 15} {
			s, p := store.New(me, 6), plate.New(6)
			lies, _ := shelf.Open(p)
			for _, old := range []api.Block{block(1, 1, "other"), block(7, 1, "old")} {
				wantPut(t, s, old, lies.Put(old))
			}
			s.Cut(n, keep)
			p.Cut(n, keep)
			wantPut(t, s, b, lies.Put(b))
			if s.Dead() != p.Dead() {
				t.Fatalf("Cut(%d, %x): Dead is %t", n, keep, s.Dead())
			}
			s.Crash(keep)
			p.Crash(keep)
			if !s.Dead() {
				t.Fatal("there is power")
			}
			p.Power()
			s.Power()
			lies, _ = shelf.Open(p)
			wantBlocks(t, s, lies.List()...)
		}
	}
}

// P13.2: Drop that is cut off is ErrDead; behind Power the block lies there, as it did, or not.
func TestDropCutOff(t *testing.T) {
	for n := 1; n <= 3; n++ {
		for _, keep := range []uint64{0, 1, 15} {
			s := serverOf(t, block(5, 1, "a"), block(6, 1, "b"))
			s.Cut(n, keep)
			want := api.ErrDead
			if n == 3 {
				want = api.OK
			}
			wantDrop(t, s, 5, want)
			if s.Dead() != (n < 3) {
				t.Fatalf("Dead is %t", s.Dead())
			}
			s.Crash(0)
			s.Power()
			if n == 3 || keep > 0 {
				wantBlocks(t, s, block(6, 1, "b"))
			} else {
				wantBlocks(t, s, block(5, 1, "a"), block(6, 1, "b"))
			}
		}
	}
}
