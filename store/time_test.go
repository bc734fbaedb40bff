package store_test

import (
	"math"
	"testing"

	"weirkeep/api"
	"weirkeep/store"
)

// wantUntil fails, unless a client of a server in the epoch 3 may write till then, and no longer. Each ask has a greater Seq.
func wantUntil(t *testing.T, s *store.Server, from, until int, seq *int) {
	t.Helper()
	for _, now := range []int{until - 1, until, until + 1} {
		want := api.OK
		if now > until {
			want = api.ErrFence
		}
		*seq++
		wantAnswer(t, s, writeOf(from, 3, *seq, block(5, *seq, "a")), now, 3, want, "")
	}
}

// P13.3: the time of Off, whoever tells it, is the version of Data, be it later or earlier than the one that was set, whatever the data in it.
func TestTime(t *testing.T) {
	s := serverOf(t)
	seq := 0
	for _, until := range []int{10, 11, 10, 0, 1 << 40, 1<<40 - 1, 256, 1, 1, 5} {
		for off := range 8 {
			for _, teller := range []int{off, 7, 0} {
				wantNothingPut(t, s, func() {
					m := msg(kindTime, teller, 3, 0, off, value(until, full[:off]))
					wantAnswer(t, s, m, 0, 3, api.OK, "")
				})
				wantUntil(t, s, off, until, &seq)
			}
		}
	}
}

// P13.3: one client's time is not another one's.
func TestTimeOfEach(t *testing.T) {
	s := serverOf(t)
	seq := 0
	for off := range 8 {
		wantAnswer(t, s, timeOf(off, 20+off), 0, 3, api.OK, "")
	}
	for off := range 8 {
		wantUntil(t, s, off, 20+off, &seq)
	}
}

// P13.3: ErrWire of Data that is no Value, ahead of ErrArg of Off; nothing changes.
func TestTimeWire(t *testing.T) {
	wantNoTrace(t, "no Value", rich, func(s *store.Server) {
		for _, data := range noValues() {
			for _, off := range []int{0, 3, 7, 8, 256} {
				wantAnswer(t, s, msg(kindTime, 0, 3, 9, off, data), 0, 3, api.ErrWire, "")
			}
		}
	})
}

// P13.3: ErrArg of an Off that is no node; below 0 there is no answer.
func TestTimeArg(t *testing.T) {
	wantNoTrace(t, "no node", rich, func(s *store.Server) {
		for off := 8; off <= 256; off++ {
			wantAnswer(t, s, timeOf(off, 99), 0, 3, api.ErrArg, "")
		}
		wantSilence(t, s, timeOf(-1, 99), 0)
		wantSilence(t, s, timeOf(257, 99), 0)
	})
}

// P13.3: its epoch does not matter: neither an elder nor a later one, and it changes none.
func TestTimeEpoch(t *testing.T) {
	s := serverOf(t)
	seq := 0
	for i, n := range []int{0, 1, 2, 3, 4, 1 << 40} {
		m := timeOf(2, 50+i)
		m.Epoch = n
		wantAnswer(t, s, m, 0, 3, api.OK, "")
		wantUntil(t, s, 2, 50+i, &seq)
	}
}

// P13.3: now, the Seq and From of a TIME do not matter either; no write is known by it.
func TestTimeLeavesWrites(t *testing.T) {
	s := serverOf(t)
	wantAnswer(t, s, writeOf(0, 3, 5, block(5, 1, "a")), 0, 3, api.OK, "")
	for _, now := range []int{math.MinInt, -1, 0, 11, math.MaxInt} {
		wantAnswer(t, s, msg(kindTime, 0, 3, 1<<40, 0, value(10, "")), now, 3, api.OK, "")
		wantAnswer(t, s, msg(kindTime, 0, 3, 0, 0, value(10, "")), now, 3, api.OK, "")
	}
	wantAnswer(t, s, writeOf(0, 3, 4, block(5, 2, "b")), 0, 3, api.ErrOld, "")
	wantAnswer(t, s, writeOf(0, 3, 5, block(5, 2, "b")), 0, 3, api.OK, "")
	wantAnswer(t, s, writeOf(0, 3, 6, block(5, 2, "b")), 0, 3, api.OK, "")
	wantBlocks(t, s, block(5, 2, "b"))
}

// P13.3: an EPOCH below the server's is ErrOld; else it is the server's, and the answer has it already.
func TestEpoch(t *testing.T) {
	s := store.New(me, 4)
	at := 0
	for _, n := range []int{0, 0, 1, 0, 1, 2, 1, 7, 6, 7, 3, 8, 1 << 32, 7, 1<<32 + 1, 1<<40 - 1, 1 << 40, 1<<40 - 1, 1 << 40, 0} {
		want := api.ErrOld
		if n >= at {
			at, want = n, api.OK
		}
		for _, now := range []int{0, math.MinInt, math.MaxInt} {
			wantNothingPut(t, s, func() { wantAnswer(t, s, epochOf(n), now, at, want, "") })
		}
		for _, ask := range []int{at - 1, at, at + 1} {
			if ask >= 0 && ask <= 1<<40 {
				want := api.ErrEpoch
				if ask == at {
					want = api.ErrNone
				}
				wantAnswer(t, s, readOf(ask, 5), 0, at, want, "")
			}
		}
	}
}

// P13.3: an EPOCH that is the server's, or below it, changes nothing, whatever else it says.
func TestEpochLeavesNoTrace(t *testing.T) {
	wantNoTrace(t, "the same epoch", rich, func(s *store.Server) {
		for from := range 8 {
			for n := range 4 {
				s.Handle(msg(kindEpoch, from, n, 1<<40, from, value(99, "z")), 0)
				s.Handle(msg(kindEpoch, from, n, 0, 256, "x"), 0)
			}
		}
	})
}

// P13.3: a later epoch leaves times, known writes and blocks as they are.
func TestEpochLeavesTheRest(t *testing.T) {
	s := serverOf(t)
	wantAnswer(t, s, writeOf(0, 3, 5, block(5, 1, "a")), 10, 3, api.OK, "")
	wantAnswer(t, s, epochOf(4), 0, 4, api.OK, "")
	wantBlocks(t, s, block(5, 1, "a"))
	wantAnswer(t, s, readOf(4, 5), 0, 4, api.OK, value(1, "a"))
	wantAnswer(t, s, writeOf(0, 4, 6, block(5, 2, "b")), 11, 4, api.ErrFence, "")
	wantNothingPut(t, s, func() {
		wantAnswer(t, s, writeOf(0, 4, 5, block(5, 2, "b")), 10, 4, api.OK, "")
		wantAnswer(t, s, writeOf(0, 4, 4, block(5, 2, "b")), 10, 4, api.ErrOld, "")
		wantAnswer(t, s, writeOf(7, 4, 4, block(5, 2, "b")), 10, 4, api.ErrFence, "")
	})
}
