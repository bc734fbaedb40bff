package ballot_test

import (
	"math"
	"slices"
	"testing"

	"weirkeep/api"
	"weirkeep/ballot"
)

// P10.1: a new one.
func TestNew(t *testing.T) {
	a, b := ballot.New(), ballot.New()
	wantAcceptor(t, "new", a, 0)
	wantAccept(t, a, vote(3, 4, "a"), api.OK)
	wantAcceptor(t, "another new one", b, 0)
	wantAcceptor(t, "one that voted", a, 4, vote(3, 4, "a"))
}

// P10.2: the document's example, and what is promised then.
func TestPrepareByHand(t *testing.T) {
	a := ballot.New()
	wantPrepare(t, a, 9, 0)
	wantAccept(t, a, vote(0, 8, "a"), api.ErrOld)
	wantAcceptor(t, "promised", a, 9)
	wantAccept(t, a, vote(0, 9, "a"), api.OK)
	wantNoPrepare(t, a, 8, 0, api.ErrOld)
	wantPrepare(t, a, 9, 0, vote(0, 9, "a"))
	wantPrepare(t, a, 10, 0, vote(0, 9, "a"))
	wantPrepare(t, a, 11, 1)
	wantAcceptor(t, "promised more", a, 11, vote(0, 9, "a"))
}

// P10.2: each ballot, at and around the edges, is promised by a new one; a number that is no ballot is not, whatever was promised.
func TestPrepareBallots(t *testing.T) {
	for _, b := range goodBallots() {
		a := ballot.New()
		wantPrepare(t, a, b, 0)
		wantAcceptor(t, "promised", a, b)
	}
	v := vote(7, 3, "x")
	for _, promised := range []int{3, 5, 1 << 40} {
		a := acceptorOf(t, promised, v)
		for _, b := range wrongBallots() {
			for _, from := range []int{-1, 0, 7, 4096} {
				wantNoPrepare(t, a, b, from, api.ErrArg)
			}
		}
		wantAcceptor(t, "refused", a, promised, v)
	}
	a := ballot.New()
	for _, b := range wrongBallots() {
		wantNoPrepare(t, a, b, 0, api.ErrArg)
	}
	wantAcceptor(t, "refused", a, 0)
}

// P10.2: a ballot that is lower than what was promised, equal, higher, whether it was promised by Prepare or by Accept.
func TestPrepareOrder(t *testing.T) {
	for _, promised := range goodBallots() {
		for _, b := range goodBallots() {
			for _, votes := range [][]ballot.Vote{nil, {vote(0, 1, "a")}, {vote(5, promised, "b"), vote(4095, 1, "")}} {
				a := acceptorOf(t, promised, votes...)
				if b < promised {
					wantNoPrepare(t, a, b, 0, api.ErrOld)
				} else {
					wantPrepare(t, a, b, 0, votes...)
				}
				wantAcceptor(t, "prepared", a, max(b, promised), votes...)
			}
		}
	}
}

// P10.2: votes of slots from from on are told, whatever from is.
func TestPrepareFrom(t *testing.T) {
	votes := []ballot.Vote{vote(0, 4, "a"), vote(1, 2, ""), vote(5, 9, "c"), vote(6, 1, "d"), vote(4000, 9, "e"), vote(4095, 3, "f")}
	a := acceptorOf(t, 9, votes...)
	for _, c := range []struct{ from, first int }{
		{math.MinInt, 0}, {math.MinInt32, 0}, {-4096, 0}, {-2, 0}, {-1, 0}, {0, 0},
		{1, 1}, {2, 2}, {3, 2}, {4, 2}, {5, 2}, {6, 3}, {7, 4}, {2000, 4}, {3999, 4}, {4000, 4}, {4001, 5}, {4094, 5}, {4095, 5},
		{4096, 6}, {4097, 6}, {1 << 16, 6}, {1<<16 + 1, 6}, {1 << 32, 6}, {math.MaxInt, 6},
	} {
		wantPrepare(t, a, 9, c.from, votes[c.first:]...)
		wantNoPrepare(t, a, 8, c.from, api.ErrOld)
		wantPrepare(t, ballot.New(), 9, c.from)
	}
	wantAcceptor(t, "asked", a, 9, votes...)
	b := acceptorOf(t, 5, vote(7, 5, "x"))
	for from := range 20 {
		if from <= 7 {
			wantPrepare(t, b, 6+from, from, vote(7, 5, "x"))
		} else {
			wantPrepare(t, b, 6+from, from)
		}
	}
}

// R3: what Votes and Prepare told is the caller's own: it stays as it was, with its spare room, and what the caller does with it changes nothing.
func TestToldIsNew(t *testing.T) {
	votes := []ballot.Vote{vote(0, 4, "a"), vote(3, 2, "b"), vote(9, 9, "c")}
	a := acceptorOf(t, 9, votes...)
	tell := []func() []ballot.Vote{
		a.Votes,
		a.Votes,
		func() []ballot.Vote { list, _ := a.Prepare(9, 0); return list },
		func() []ballot.Vote { list, _ := a.Prepare(9, -1); return list },
	}
	for i := range tell {
		var lists [][]ballot.Vote
		for _, f := range tell {
			lists = append(lists, f())
		}
		mine := lists[i][:cap(lists[i])]
		for j := range mine {
			mine[j] = vote(77, 77, "mine")
		}
		for j, list := range lists {
			if j != i && !slices.Equal(list, votes) {
				t.Errorf("list %d is %s", j, toldAll(list))
			}
		}
		wantAcceptor(t, "a list was changed", a, 9, votes...)
	}
	before, asked := a.Votes(), tell[2]()
	wantAccept(t, a, vote(3, 10, "d"), api.OK)
	wantAccept(t, a, vote(4, 11, "e"), api.OK)
	if !slices.Equal(before, votes) || !slices.Equal(asked, votes) {
		t.Errorf("told: %s, and %s", toldAll(before), toldAll(asked))
	}
	wantAcceptor(t, "accepted", a, 11, votes[0], vote(3, 10, "d"), vote(4, 11, "e"), votes[2])
}
