package store_test

import (
	"testing"

	"weirkeep/api"
	"weirkeep/store"
)

// keeps are all that the first bits of keep may be, the others 0, and 1.
func keeps() []uint64 {
	var list []uint64
	for share := range uint64(16) {
		list = append(list, share, ^uint64(15)|share)
	}
	return list
}

// wantOneOf fails, unless the blocks are others, and, if n and keep say so, now in the place of was. A WRITE makes four calls: Write and Sync without a mark, Write and Sync with it.
func wantOneOf(t *testing.T, s *store.Server, n int, keep uint64, was []api.Block, now []api.Block) {
	t.Helper()
	if n > 2 && keep&15 > 0 {
		wantBlocks(t, s, now...)
	} else {
		wantBlocks(t, s, was...)
	}
}

// P13.3: the power goes at each of a WRITE's plate calls: no answer, and none to what comes then; behind Power the block is the elder one, or the new one, whole.
func TestWriteCutOff(t *testing.T) {
	other, elder, b := block(1, 9, full), block(7, 8, "elder"), block(7, 9, "0123456789ABCDEF")
	for _, was := range [][]api.Block{{other}, {other, elder}} {
		for n := 1; n <= 4; n++ {
			for _, keep := range keeps() {
				s := serverOf(t, was...)
				s.Cut(n, keep)
				calls := s.Calls()
				wantSilence(t, s, writeOf(0, 3, 1, b), 10)
				if !s.Dead() || s.Calls() != calls+n {
					t.Fatalf("%d calls, Dead is %t", s.Calls()-calls, s.Dead())
				}
				wantSilence(t, s, writeOf(0, 3, 1, b), 10)
				wantSilence(t, s, readOf(3, 7), 10)
				s.Power()
				wantOneOf(t, s, n, keep, was, []api.Block{other, b})
			}
		}
	}
}

// P13.3, P13.4: with power again the write that was cut off is not known; when it comes again, it is OK, whatever took place of it.
func TestWriteCutOffAnew(t *testing.T) {
	elder, b := block(7, 8, "elder"), block(7, 9, "new")
	for n := 1; n <= 4; n++ {
		for _, keep := range keeps() {
			s := serverOf(t, elder)
			s.Cut(n, keep)
			wantSilence(t, s, writeOf(0, 3, 5, b), 0)
			s.Power()
			wantAnswer(t, s, writeOf(0, 0, 5, b), 0, 0, api.ErrFence, "")
			wantAnswer(t, s, timeOf(0, 10), 0, 0, api.OK, "")
			wantOneOf(t, s, n, keep, []api.Block{elder}, []api.Block{b})
			wantAnswer(t, s, writeOf(0, 0, 5, b), 0, 0, api.OK, "")
			wantBlocks(t, s, b)
			wantAnswer(t, s, writeOf(0, 0, 4, b), 0, 0, api.ErrOld, "")
			s.Crash(keep)
			s.Power()
			wantBlocks(t, s, b)
		}
	}
}

// P13.3: a WRITE that the power outlasts is answered, and lasts; the next call that counts is the last one.
func TestWriteCutBehind(t *testing.T) {
	b := block(7, 9, "new")
	for _, keep := range keeps() {
		s := serverOf(t, block(7, 8, "elder"))
		s.Cut(5, keep)
		wantAnswer(t, s, writeOf(0, 3, 5, b), 0, 3, api.OK, "")
		if s.Dead() {
			t.Fatal("no power")
		}
		wantSilence(t, s, writeOf(0, 3, 6, block(7, 10, "newer")), 0)
		s.Power()
		wantBlocks(t, s, b)
	}
}

// P13.3: what makes no call of the plate is answered, however near the last call is.
func TestAnsweredAheadOfCut(t *testing.T) {
	s := serverOf(t, block(7, 8, "elder"))
	wantAnswer(t, s, writeOf(0, 3, 5, block(7, 9, "new")), 0, 3, api.OK, "")
	s.Cut(1, 0)
	for range 3 {
		wantAnswer(t, s, writeOf(0, 3, 5, block(7, 9, "new")), 0, 3, api.OK, "")
		wantAnswer(t, s, writeOf(1, 3, 5, block(7, 9, "new")), 0, 3, api.OK, "")
		wantAnswer(t, s, writeOf(2, 3, 5, block(7, 9, "other")), 0, 3, api.ErrOld, "")
		wantAnswer(t, s, writeOf(3, 3, 5, block(7, 10, "other")), 11, 3, api.ErrFence, "")
		wantAnswer(t, s, readOf(3, 7), 0, 3, api.OK, value(9, "new"))
		wantAnswer(t, s, readOf(3, 8), 0, 3, api.ErrNone, "")
		wantAnswer(t, s, timeOf(6, 5), 0, 3, api.OK, "")
		wantAnswer(t, s, epochOf(3), 0, 3, api.OK, "")
		wantAnswer(t, s, epochOf(2), 0, 3, api.ErrOld, "")
	}
	wantSilence(t, s, writeOf(0, 3, 6, block(7, 10, "newer")), 0)
}
