package ballot_test

import (
	"strings"
	"testing"

	"weirkeep/api"
	"weirkeep/ballot"
)

// P10.2: votes at and around the edges, each accepted by a new one.
func TestAccept(t *testing.T) {
	for _, slot := range []int{0, 1, 2, 255, 256, 2048, 4094, 4095} {
		for _, b := range goodBallots() {
			for _, length := range []int{0, 1, 255, 256, 1023, 1024} {
				a, v := ballot.New(), vote(slot, b, long(length))
				wantAccept(t, a, v, api.OK)
				wantAcceptor(t, "accepted", a, b, v)
			}
		}
	}
}

// P10.2: what may not be is refused, by a new one, and by one that has votes and promised less, or more; nothing changes.
func TestAcceptRefused(t *testing.T) {
	votes := []ballot.Vote{vote(0, 2, "a"), vote(6, 1000, "b"), vote(4095, 7, "c")}
	acceptors := map[int]*ballot.Acceptor{0: ballot.New(), 1000: acceptorOf(t, 1000, votes...), 1 << 40: acceptorOf(t, 1<<40, votes...)}
	for promised, a := range acceptors {
		for _, value := range []string{"", "x", long(1024), long(1025), strings.Repeat("y", 5000)} {
			for _, slot := range wrongSlots() {
				for _, b := range []int{1, 999, 1000, 1 << 40, 0, 1<<40 + 1} {
					wantAccept(t, a, vote(slot, b, value), api.ErrArg)
				}
			}
			for _, b := range wrongBallots() {
				for _, slot := range []int{0, 6, 4095, -1, 4096} {
					wantAccept(t, a, vote(slot, b, value), api.ErrArg)
				}
			}
		}
		for _, length := range []int{1025, 1026, 2047, 2048, 4096, 1 << 16, 1<<16 + 1} {
			for _, b := range []int{1, 999, 1000, 1001, 1 << 40} {
				wantAccept(t, a, vote(6, b, long(length)), api.ErrLong)
			}
		}
		if promised == 0 {
			wantAcceptor(t, "refused", a, 0)
		} else {
			wantAcceptor(t, "refused", a, promised, votes...)
		}
	}
}

// P10.2: bytes count, not letters.
func TestAcceptBytes(t *testing.T) {
	a := ballot.New()
	wantAccept(t, a, vote(1, 1, strings.Repeat("é", 512)), api.OK)
	wantAccept(t, a, vote(1, 2, strings.Repeat("é", 512)+"x"), api.ErrLong)
	wantAccept(t, a, vote(1, 2, strings.Repeat("é", 1024)), api.ErrLong)
	wantAcceptor(t, "bytes", a, 1, vote(1, 1, strings.Repeat("é", 512)))
}

// P10.2: a ballot that is lower than what was promised, equal, higher.
func TestAcceptOrder(t *testing.T) {
	for _, promised := range goodBallots() {
		for _, b := range goodBallots() {
			for _, slot := range []int{0, 5, 4095} {
				a, v := acceptorOf(t, promised, vote(5, 1, "a")), vote(slot, b, "x")
				if b < promised {
					wantAccept(t, a, v, api.ErrOld)
					wantAcceptor(t, "refused", a, promised, vote(5, 1, "a"))
					continue
				}
				wantAccept(t, a, v, api.OK)
				switch slot {
				case 0:
					wantAcceptor(t, "ahead", a, b, v, vote(5, 1, "a"))
				case 5:
					wantAcceptor(t, "in its place", a, b, v)
				default:
					wantAcceptor(t, "behind", a, b, vote(5, 1, "a"), v)
				}
			}
		}
	}
}

// P10.2: a vote takes the place of the one of its slot, of the same ballot too; its ballot is promised from then on; others stay.
func TestAcceptAgain(t *testing.T) {
	a := acceptorOf(t, 6, vote(2, 6, "a"), vote(3, 4, "b"))
	wantAccept(t, a, vote(2, 6, "c"), api.OK)
	wantAcceptor(t, "the same ballot", a, 6, vote(2, 6, "c"), vote(3, 4, "b"))
	wantAccept(t, a, vote(3, 8, ""), api.OK)
	wantAcceptor(t, "a higher one", a, 8, vote(2, 6, "c"), vote(3, 8, ""))
	wantAccept(t, a, vote(2, 7, "d"), api.ErrOld)
	wantNoPrepare(t, a, 7, 0, api.ErrOld)
	wantAcceptor(t, "refused", a, 8, vote(2, 6, "c"), vote(3, 8, ""))
	wantAccept(t, a, vote(2, 1<<40, "e"), api.OK)
	wantAccept(t, a, vote(3, 1<<40-1, "f"), api.ErrOld)
	wantAcceptor(t, "the last ballot", a, 1<<40, vote(2, 1<<40, "e"), vote(3, 8, ""))
	wantAccept(t, a, vote(3, 1<<40, "f"), api.OK)
	wantPrepare(t, a, 1<<40, 3, vote(3, 1<<40, "f"))
}

// P10.1: votes stand by slots, one of each, in whatever order they come; also of all slots there are.
func TestVotesBySlots(t *testing.T) {
	a := ballot.New()
	last := map[int]ballot.Vote{}
	for i := range 3000 {
		v := vote(i*37%256*16, 1+i/2, long(i%5))
		last[v.Slot] = v
		wantAccept(t, a, v, api.OK)
	}
	var want []ballot.Vote
	for slot := range 4096 {
		if v, ok := last[slot]; ok {
			want = append(want, v)
		}
	}
	if len(want) != 256 {
		t.Fatalf("%d slots", len(want))
	}
	wantAcceptor(t, "some slots", a, 1500, want...)
	want = nil
	for slot := range 4096 {
		want = append(want, vote(slot, 2000, long(slot%7)))
	}
	for i := range want {
		wantAccept(t, a, want[4095-i], api.OK)
	}
	wantAcceptor(t, "all slots", a, 2000, want...)
	wantPrepare(t, a, 2001, 4000, want[4000:]...)
}
