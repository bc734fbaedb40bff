package ballot_test

import (
	"math"
	"math/big"
	"testing"

	"weirkeep/api"
	"weirkeep/ballot"
)

func wantNumber(t *testing.T, round, node, want int, e api.Errno) {
	t.Helper()
	if got, is := ballot.Number(round, node); got != want || is != e {
		t.Errorf("Number(%d, %d): %d, %d, want %d, %d", round, node, got, is, want, e)
	}
}

func wantOwner(t *testing.T, b, round, node int) {
	t.Helper()
	if r, n := ballot.Owner(b); r != round || n != node {
		t.Errorf("Owner(%d): %d, %d, want %d, %d", b, r, n, round, node)
	}
}

// saidNumber is Number by numbers of any greatness.
func saidNumber(round, node int) (int, api.Errno) {
	if round < 0 || node < 0 || node > 7 {
		return 0, api.ErrArg
	}
	b := new(big.Int).Mul(big.NewInt(8), big.NewInt(int64(round)))
	b.Add(b, big.NewInt(int64(node)))
	b.Add(b, big.NewInt(1))
	if b.Cmp(big.NewInt(1<<40)) > 0 {
		return 0, api.ErrMax
	}
	return int(b.Int64()), api.OK
}

// goodRounds are rounds of which each node has a ballot, and maxRounds such as are too great for each; the last ones of them all are 2^37 - 1 and 2^37.
func goodRounds() []int {
	return []int{0, 1, 2, 3, 7, 8, 100, 1 << 16, 1<<29 - 1, 1 << 29, 1 << 32, 1<<36 + 5, 1<<37 - 2, 1<<37 - 1}
}

func maxRounds() []int {
	return []int{1 << 37, 1<<37 + 1, 1 << 38, 1<<40 - 1, 1 << 40, 1<<40 + 1, 1 << 60, 1<<60 - 1, 1<<61 - 1, 1 << 61, 1<<61 + 1, 1 << 62, 1<<62 + 1<<61, math.MaxInt - 1, math.MaxInt}
}

// P10.1: by hand.
func TestNumberByHand(t *testing.T) {
	for _, c := range []struct {
		round, node, want int
		e                 api.Errno
	}{
		{0, 0, 1, api.OK},
		{0, 1, 2, api.OK},
		{0, 7, 8, api.OK},
		{1, 0, 9, api.OK},
		{2, 3, 20, api.OK},
		{1<<37 - 1, 0, 1<<40 - 7, api.OK},
		{1<<37 - 1, 6, 1<<40 - 1, api.OK},
		{1<<37 - 1, 7, 1 << 40, api.OK},
		{1 << 37, 0, 0, api.ErrMax},
		{1 << 37, 7, 0, api.ErrMax},
		{-1, 0, 0, api.ErrArg},
		{0, -1, 0, api.ErrArg},
		{0, 8, 0, api.ErrArg},
		{-1, 8, 0, api.ErrArg},
		{1 << 37, 8, 0, api.ErrArg},
		{1 << 37, -1, 0, api.ErrArg},
		{math.MaxInt, 0, 0, api.ErrMax},
		{math.MaxInt, 7, 0, api.ErrMax},
		{math.MinInt, 0, 0, api.ErrArg},
		{math.MaxInt, math.MaxInt, 0, api.ErrArg},
	} {
		wantNumber(t, c.round, c.node, c.want, c.e)
	}
}

// P10.1: rounds and nodes at and around the edges, and far outside; a number that may not be stands ahead of ErrMax. Where there is a ballot, its Owner is told.
func TestNumber(t *testing.T) {
	rounds := append([]int{-1, -2, -8, -1 << 37, math.MinInt32, math.MinInt, math.MinInt + 1}, goodRounds()...)
	for _, round := range append(rounds, maxRounds()...) {
		for _, node := range []int{math.MinInt, -1 << 32, -8, -7, -2, -1, 0, 1, 2, 3, 4, 5, 6, 7, 8, 9, 15, 16, 255, 256, 1 << 32, math.MaxInt - 1, math.MaxInt} {
			want, e := saidNumber(round, node)
			wantNumber(t, round, node, want, e)
			if e == api.OK {
				wantOwner(t, want, round, node)
			}
		}
	}
}

// P10.1: what is no ballot has no owner; the first and the last ballot have.
func TestOwner(t *testing.T) {
	for _, b := range wrongBallots() {
		wantOwner(t, b, -1, -1)
	}
	wantOwner(t, 1, 0, 0)
	wantOwner(t, 8, 0, 7)
	wantOwner(t, 9, 1, 0)
	wantOwner(t, 1<<40-8, 1<<37-2, 7)
	wantOwner(t, 1<<40-7, 1<<37-1, 0)
	wantOwner(t, 1<<40, 1<<37-1, 7)
}

// P10.1: each ballot, of the first ones and of the last ones, is the Number of its owner.
func TestOwnerNumber(t *testing.T) {
	for i := range 3000 {
		for _, b := range []int{1 + i, 1<<40 - i, 1<<32 - 1500 + i} {
			round, node := ballot.Owner(b)
			wantNumber(t, round, node, b, api.OK)
		}
	}
}

// P10.5: no ballot is that of two rounds or nodes, and of one node they rise with the rounds.
func TestNumbersAreUnlike(t *testing.T) {
	seen := map[int][2]int{}
	for node := range 8 {
		last := 0
		for _, first := range []int{0, 1<<29 - 100, 1<<37 - 500} {
			for round := first; round < first+500; round++ {
				b, e := ballot.Number(round, node)
				if e != api.OK || b <= last {
					t.Fatalf("Number(%d, %d): %d, %d, behind %d", round, node, b, e, last)
				}
				if owner, ok := seen[b]; ok {
					t.Fatalf("Number(%d, %d): %d is that of %v", round, node, b, owner)
				}
				seen[b] = [2]int{round, node}
				last = b
			}
		}
	}
}
