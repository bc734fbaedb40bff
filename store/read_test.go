package store_test

import (
	"math"
	"testing"

	"weirkeep/api"
	"weirkeep/store"
)

// P13.3: READ tells the block as a Value, whoever asks, whatever the time, the Seq, the Len and the Data.
func TestRead(t *testing.T) {
	blocks := []api.Block{block(0, 1, ""), block(5, 258, "ab"), block(128, 7, "\x00"), block(255, 1<<40, full)}
	s := serverOf(t, blocks...)
	for _, b := range blocks {
		for from := range 8 {
			for _, now := range []int{math.MinInt, -1, 0, 10, 11, math.MaxInt} {
				m := api.Msg{Kind: kindRead, From: from, To: me, Epoch: 3, Seq: from * 1000, Off: b.ID, Len: from * 30, Data: long[:from]}
				wantNothingPut(t, s, func() { wantAnswer(t, s, m, now, 3, api.OK, value(b.Ver, b.Data)) })
			}
		}
	}
}

// P13.3: ErrNone of what is not there: at and around the edges of a block's numbers, and of a block that was dropped.
func TestReadNone(t *testing.T) {
	s := serverOf(t, block(0, 1, "a"), block(255, 2, "b"), block(7, 3, "c"))
	for off := range 257 {
		switch off {
		case 0:
			wantAnswer(t, s, readOf(3, off), 0, 3, api.OK, value(1, "a"))
		case 7:
			wantAnswer(t, s, readOf(3, off), 0, 3, api.OK, value(3, "c"))
		case 255:
			wantAnswer(t, s, readOf(3, off), 0, 3, api.OK, value(2, "b"))
		default:
			wantAnswer(t, s, readOf(3, off), 0, 3, api.ErrNone, "")
		}
	}
	wantDrop(t, s, 0, api.OK)
	wantAnswer(t, s, readOf(3, 0), 0, 3, api.ErrNone, "")
}

// P13.3: ErrEpoch of each epoch but the server's, ahead of ErrNone; the answer has the server's.
func TestReadEpoch(t *testing.T) {
	s := serverOf(t, block(5, 1, "a"))
	for _, n := range []int{0, 1, 2, 4, 5, 1 << 32, 1<<32 + 3, 1 << 40} {
		wantAnswer(t, s, readOf(n, 5), 0, 3, api.ErrEpoch, "")
		wantAnswer(t, s, readOf(n, 6), 0, 3, api.ErrEpoch, "")
		wantAnswer(t, s, readOf(n, 256), 0, 3, api.ErrEpoch, "")
	}
	wantAnswer(t, s, readOf(3, 5), 0, 3, api.OK, value(1, "a"))
}

// P13.3: a READ changes nothing.
func TestReadLeavesNoTrace(t *testing.T) {
	wantNoTrace(t, "read", rich, func(s *store.Server) {
		for from := range 8 {
			for n := range 5 {
				for _, off := range []int{0, 5, 6, 256} {
					s.Handle(msg(kindRead, from, n, 1<<40, off, value(99, "z")), 0)
				}
			}
		}
	})
}
