package store_test

import (
	"math"
	"testing"

	"weirkeep/api"
	"weirkeep/store"
)

// P13.3: ErrEpoch of each epoch but the server's, ahead of ErrWire, of ErrFence and of ErrOld.
func TestWriteEpoch(t *testing.T) {
	s := serverOf(t)
	wantAnswer(t, s, writeOf(0, 3, 9, block(5, 1, "a")), 0, 3, api.OK, "")
	wantNothingPut(t, s, func() {
		for _, n := range []int{0, 1, 2, 4, 5, 1 << 32, 1<<32 + 3, 1 << 40} {
			for _, seq := range []int{0, 8, 9, 10} {
				wantAnswer(t, s, writeOf(0, n, seq, block(5, 2, "b")), 0, 3, api.ErrEpoch, "")
				wantAnswer(t, s, writeOf(0, n, seq, block(5, 2, "b")), 11, 3, api.ErrEpoch, "")
				wantAnswer(t, s, writeOf(7, n, seq, block(5, 2, "b")), 0, 3, api.ErrEpoch, "")
				wantAnswer(t, s, msg(kindWrite, 0, n, seq, 5, "x"), 0, 3, api.ErrEpoch, "")
			}
		}
	})
	wantAnswer(t, s, writeOf(0, 3, 10, block(5, 2, "b")), 0, 3, api.OK, "")
}

// P13.3: ErrWire of Data that is no Value, ahead of ErrFence and of ErrOld.
func TestWriteWire(t *testing.T) {
	s := serverOf(t)
	wantAnswer(t, s, writeOf(0, 3, 9, block(5, 1, "a")), 0, 3, api.OK, "")
	wantNothingPut(t, s, func() {
		for _, data := range noValues() {
			for _, seq := range []int{0, 8, 9, 10, 11} {
				wantAnswer(t, s, msg(kindWrite, 0, 3, seq, 5, data), 0, 3, api.ErrWire, "")
				wantAnswer(t, s, msg(kindWrite, 0, 3, seq, 5, data), 11, 3, api.ErrWire, "")
				wantAnswer(t, s, msg(kindWrite, 7, 3, seq, 5, data), 0, 3, api.ErrWire, "")
			}
		}
	})
	wantAnswer(t, s, writeOf(0, 3, 10, block(5, 2, "b")), 0, 3, api.OK, "")
}

// P13.3: a client writes at its time, and ahead of it; above it, it is ErrFence, ahead of ErrOld and of what is known.
func TestWriteTime(t *testing.T) {
	s := serverOf(t)
	seq := 0
	for _, until := range []int{0, 1, 10, 1 << 32, 1<<40 - 1, 1 << 40, 5, 0, 20} {
		wantAnswer(t, s, timeOf(0, until), math.MaxInt, 3, api.OK, "")
		for _, now := range []int{math.MinInt, -1, 0, until - 1, until} {
			if now <= until {
				seq++
				wantAnswer(t, s, writeOf(0, 3, seq, block(5, seq, "a")), now, 3, api.OK, "")
			}
		}
		wantNothingPut(t, s, func() {
			for _, now := range []int{until + 1, until + 2, 1<<40 + 1, math.MaxInt} {
				for n := seq - 1; n <= seq+1; n++ {
					wantAnswer(t, s, writeOf(0, 3, n, block(5, n, "a")), now, 3, api.ErrFence, "")
				}
			}
		})
		wantBlocks(t, s, block(5, seq, "a"))
	}
}

// P13.3: whose time was never set may not write, whatever others may, and whatever the time.
func TestWriteNoTime(t *testing.T) {
	s := store.New(me, 4)
	for from := range 8 {
		for other := from; other < 8; other++ {
			for _, now := range []int{math.MinInt, -1, 0, 1, math.MaxInt} {
				wantAnswer(t, s, writeOf(other, 0, 1, block(other, 1, "a")), now, 0, api.ErrFence, "")
			}
		}
		wantAnswer(t, s, timeOf(from, 0), 0, 0, api.OK, "")
		wantAnswer(t, s, writeOf(from, 0, 1, block(from&3, 1+from, "a")), 0, 0, statusOf(from < 4), "")
		wantAnswer(t, s, writeOf(from, 0, 1, block(from, 1, "a")), 1, 0, api.ErrFence, "")
	}
}

// statusOf is OK, or ErrFull.
func statusOf(ok bool) api.Errno {
	if ok {
		return api.OK
	}
	return api.ErrFull
}

// P13.3: what was refused by ErrEpoch, ErrWire, ErrFence or ErrOld is not known: it may come again, and is done then.
func TestRefusedIsNotKnown(t *testing.T) {
	s := serverOf(t)
	w := writeOf(0, 3, 5, block(5, 1, "a"))
	wantAnswer(t, s, w, 11, 3, api.ErrFence, "")
	wantAnswer(t, s, msg(kindWrite, 0, 3, 5, 5, "x"), 0, 3, api.ErrWire, "")
	wantAnswer(t, s, writeOf(0, 4, 5, block(5, 1, "a")), 0, 3, api.ErrEpoch, "")
	wantAnswer(t, s, writeOf(0, 3, 4, block(6, 1, "b")), 0, 3, api.OK, "")
	wantAnswer(t, s, w, 0, 3, api.OK, "")
	wantAnswer(t, s, writeOf(0, 3, 4, block(7, 1, "c")), 0, 3, api.ErrOld, "")
	wantAnswer(t, s, w, 0, 3, api.OK, "")
	wantBlocks(t, s, block(5, 1, "a"), block(6, 1, "b"))
}

// P13.3: a Seq below the known one is ErrOld, the known one is answered as it was, whatever it asks for; a greater one is new.
func TestWriteSeq(t *testing.T) {
	for _, seq := range []int{0, 1, 2, 77, 1 << 32, 1<<40 - 1, 1 << 40} {
		s := serverOf(t)
		wantAnswer(t, s, writeOf(0, 3, seq, block(5, 4, "a")), 10, 3, api.OK, "")
		wantNothingPut(t, s, func() {
			for _, b := range []api.Block{block(5, 4, "a"), block(5, 9, "z"), block(5, 1, ""), block(5, 0, ""), block(6, 1, "q"), block(256, 1, "")} {
				wantAnswer(t, s, writeOf(0, 3, seq, b), 0, 3, api.OK, "")
				for _, elder := range []int{0, 1, seq / 2, seq - 1} {
					if elder >= 0 && elder < seq {
						wantAnswer(t, s, writeOf(0, 3, elder, b), 0, 3, api.ErrOld, "")
						wantAnswer(t, s, writeOf(0, 3, seq, b), 0, 3, api.OK, "")
					}
				}
			}
		})
		if seq < 1<<40 {
			wantAnswer(t, s, writeOf(0, 3, seq+1, block(5, 9, "z")), 0, 3, api.OK, "")
			wantAnswer(t, s, writeOf(0, 3, seq, block(5, 4, "a")), 0, 3, api.ErrOld, "")
			wantBlocks(t, s, block(5, 9, "z"))
		}
	}
}

// P13.3: a known status that is an error is answered again, also where the write would be OK now, and all that is behind Parse is known.
func TestWriteKnownError(t *testing.T) {
	s := serverOf(t, block(1, 5, "a"), block(2, 5, "b"), block(3, 5, "c"), block(4, 5, "d"))
	for from, c := range []struct {
		b api.Block
		e api.Errno
	}{{block(9, 1, ""), api.ErrFull}, {block(1, 4, ""), api.ErrOld}, {block(1, 0, ""), api.ErrArg}, {block(256, 1, ""), api.ErrArg}} {
		wantAnswer(t, s, writeOf(from, 3, 5, c.b), 0, 3, c.e, "")
		wantDrop(t, s, 4, api.OK)
		wantNothingPut(t, s, func() {
			wantAnswer(t, s, writeOf(from, 3, 5, c.b), 0, 3, c.e, "")
			wantAnswer(t, s, writeOf(from, 3, 5, block(1, 9, "x")), 0, 3, c.e, "")
			wantAnswer(t, s, writeOf(from, 3, 5, block(2, 5, "b")), 0, 3, c.e, "")
			wantAnswer(t, s, writeOf(from, 3, 4, block(2, 5, "b")), 0, 3, api.ErrOld, "")
		})
		wantAnswer(t, s, writeOf(from, 3, 6, block(4, 6+from, "e")), 0, 3, api.OK, "")
		wantAnswer(t, s, writeOf(from, 3, 5, c.b), 0, 3, api.ErrOld, "")
	}
}

// P13.3: of each client there is one known write; a newer one, OK or not, stands in the place of the elder one.
func TestWriteKnownOfEach(t *testing.T) {
	s := serverOf(t)
	for from := range 6 {
		wantAnswer(t, s, writeOf(from, 3, 10-from, block(5, 1+from, "a")), 0, 3, api.OK, "")
	}
	wantNothingPut(t, s, func() {
		for from := range 6 {
			wantAnswer(t, s, writeOf(from, 3, 10-from, block(5, 99, "z")), 0, 3, api.OK, "")
			wantAnswer(t, s, writeOf(from, 3, 9-from, block(5, 99, "z")), 0, 3, api.ErrOld, "")
		}
	})
	wantAnswer(t, s, writeOf(2, 3, 9, block(5, 0, "")), 0, 3, api.ErrArg, "")
	wantNothingPut(t, s, func() {
		wantAnswer(t, s, writeOf(2, 3, 8, block(5, 99, "z")), 0, 3, api.ErrOld, "")
		wantAnswer(t, s, writeOf(2, 3, 9, block(5, 99, "z")), 0, 3, api.ErrArg, "")
		for _, from := range []int{0, 1, 3, 4, 5} {
			wantAnswer(t, s, writeOf(from, 3, 10-from, block(5, 99, "z")), 0, 3, api.OK, "")
		}
	})
	wantBlocks(t, s, block(5, 6, "a"))
}

// P13.3: of a block with just this version and data it is OK, and nothing is put, also where the shelf is full; it is known then.
func TestWriteJustThis(t *testing.T) {
	blocks := []api.Block{block(0, 1, ""), block(5, 4, "a"), block(255, 1<<40, full), block(7, 9, "\x00")}
	s := serverOf(t, blocks...)
	for i, b := range blocks {
		wantNothingPut(t, s, func() {
			wantAnswer(t, s, writeOf(0, 3, 2*i, b), 0, 3, api.OK, "")
			wantAnswer(t, s, writeOf(0, 3, 2*i, block(1, 1, "z")), 0, 3, api.OK, "")
			if i > 0 {
				wantAnswer(t, s, writeOf(0, 3, 2*i-1, b), 0, 3, api.ErrOld, "")
			}
		})
	}
}

// P13.3: else it is as shelf.Put has it: the same version with other data, a lower one, a higher one, numbers that may not be.
func TestWriteAsPut(t *testing.T) {
	for _, c := range []struct {
		b api.Block
		e api.Errno
	}{
		{block(5, 4, "b"), api.ErrOld}, {block(5, 4, ""), api.ErrOld}, {block(5, 4, "a\x00"), api.ErrOld}, {block(5, 3, "a"), api.ErrOld},
		{block(5, 1, "z"), api.ErrOld}, {block(5, 0, "a"), api.ErrArg}, {block(5, 5, "a"), api.OK}, {block(5, 5, ""), api.OK},
		{block(5, 1<<40, full), api.OK}, {block(6, 4, "a"), api.OK}, {block(0, 0, ""), api.ErrArg}, {block(9, 0, ""), api.ErrArg},
		{block(255, 1, "x"), api.OK}, {block(256, 4, "a"), api.ErrArg}, {block(256, 0, ""), api.ErrArg}, {block(0, 1, ""), api.OK},
	} {
		s := serverOf(t, block(5, 4, "a"))
		was := s.List()
		wantAnswer(t, s, writeOf(0, 3, 1, c.b), 0, 3, c.e, "")
		switch {
		case c.e != api.OK:
			wantBlocks(t, s, was...)
		case c.b.ID < 5:
			wantBlocks(t, s, c.b, was[0])
		case c.b.ID > 5:
			wantBlocks(t, s, was[0], c.b)
		default:
			wantBlocks(t, s, c.b)
		}
	}
}

// P13.3: on a full shelf: a newer version is ErrFull too, and an old one ErrOld, one that may not be ErrArg.
func TestWriteFull(t *testing.T) {
	blocks := []api.Block{block(1, 5, "a"), block(2, 5, "b"), block(3, 5, "c"), block(4, 5, "d")}
	s := serverOf(t, blocks...)
	for i, c := range []struct {
		b api.Block
		e api.Errno
	}{
		{block(9, 1, "x"), api.ErrFull}, {block(1, 6, "x"), api.ErrFull}, {block(1, 5, "x"), api.ErrOld}, {block(1, 4, "a"), api.ErrOld},
		{block(1, 0, ""), api.ErrArg}, {block(256, 9, ""), api.ErrArg}, {block(1, 5, "a"), api.OK}, {block(0, 1<<40, full), api.ErrFull},
	} {
		wantNothingPut(t, s, func() { wantAnswer(t, s, writeOf(0, 3, i, c.b), 0, 3, c.e, "") })
	}
	wantBlocks(t, s, blocks...)
	wantDrop(t, s, 3, api.OK)
	wantAnswer(t, s, writeOf(0, 3, 50, block(1, 6, "x")), 0, 3, api.OK, "")
	wantBlocks(t, s, block(1, 6, "x"), block(2, 5, "b"), block(4, 5, "d"))
}
