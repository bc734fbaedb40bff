package quorum_test

import (
	"math"
	"testing"

	"weirkeep/api"
	"weirkeep/quorum"
)

// wrongSlots are numbers that no slot has, and such as were one if they were cut to fewer bits.
func wrongSlots() []int {
	return []int{-1, -2, -4096, 4096, 4097, 8192, 1 << 16, 1 << 32, 1<<32 + 1, math.MinInt32, math.MinInt, math.MaxInt}
}

// P11.4: of a slot below 0, above the last one, and of one that nothing was accepted in there is no value; asked for, they change nothing.
func TestChosenNone(t *testing.T) {
	for n := 1; n <= 5; n++ {
		g := quorum.New(n)
		wantNotChosen(t, g, wrongSlots()...)
		wantNotChosen(t, g, 0, 1, 2, 4095)
		wantPropose(t, g, 0, "a", 0, 0, "a")
		wantPropose(t, g, 0, "b", 0, 1, "b")
		wantNoPropose(t, g, 0, "c", lost(ask2, all(n)...), api.ErrLost)
		wantNotChosen(t, g, wrongSlots()...)
		wantNotChosen(t, g, 2, 3, 4095)
		wantChosen(t, g, 0, "a")
		wantChosen(t, g, 1, "b")
	}
}

// P11.4: of each part of the nodes that accepts: a minority chooses nothing, a majority does, heard or not.
func TestChosenByPart(t *testing.T) {
	eachPart(func(n, p int, in, but []int) {
		for _, value := range []string{"", "a"} {
			for _, heard := range []bool{false, true} {
				g := quorum.New(n)
				loss := lost(ask2, but...)
				if !heard {
					loss |= lost(answer2, in...)
				}
				if heard && enough(n, in) {
					wantPropose(t, g, p, value, loss, 0, value)
				} else {
					wantNoPropose(t, g, p, value, loss, api.ErrLost)
				}
				wantChosenIf(t, g, 0, value, enough(n, in))
			}
		}
	}, false)
}

// P11.4: a majority accepted, but at no ballot together: at one value, and at several.
func TestChosenAtNoBallot(t *testing.T) {
	g := quorum.New(5)
	voteAt(t, g, 0, "a", 0, 1)
	wantNotChosen(t, g, 0)
	raise(t, g, 1, 3)
	wantNoPropose(t, g, 1, "b", lost(ask2, 0, 1, 4), api.ErrLost) // nodes 2 and 3 vote for a too
	wantNotChosen(t, g, 0)
	raise(t, g, 2, 6)
	wantNoPropose(t, g, 2, "c", lost(ask2, 0, 1, 2, 3), api.ErrLost) // and node 4
	wantNotChosen(t, g, 0)
	wantPropose(t, g, 2, "c", 0, 0, "a")
	wantChosen(t, g, 0, "a")

	g = quorum.New(5)
	for i, value := range []string{"a", "b", "c"} { // nodes 0, 1 and 2 vote for a value each
		wantNoPropose(t, g, 4, value, hearing(5, i, 3, 4)|lost(ask2, 3, 4), api.ErrLost)
		wantNotChosen(t, g, 0)
	}
	wantPropose(t, g, 4, "d", hearing(5, 1, 3, 4), 0, "b")
	wantChosen(t, g, 0, "b")
}

// P11.4: each node accepted again and again, but never a majority at one ballot.
func TestChosenNeverTogether(t *testing.T) {
	g := quorum.New(3)
	for i := range 30 {
		voteAt(t, g, 0, long(i), i%3)
		wantNotChosen(t, g, 0)
	}
	wantPropose(t, g, 0, "x", 0, 0, long(0))
	wantChosen(t, g, 0, long(0))
}

// P11.4: one that was chosen though who proposed it was answered ErrLost stays so, and is what the next ones are told.
func TestChosenThoughLost(t *testing.T) {
	for n := 1; n <= 5; n++ {
		for p := range n {
			g := quorum.New(n)
			wantNoPropose(t, g, 0, "a", lost(answer2, all(n)...), api.ErrLost)
			wantChosen(t, g, 0, "a")
			wantLog(t, g, 0)
			raise(t, g, p, 1)
			wantPropose(t, g, p, "b", 0, 0, "a")
			wantChosen(t, g, 0, "a")
			wantPropose(t, g, p, "b", 0, 1, "b")
			wantLog(t, g, p, "a", "b")
		}
	}
}

// P11.4: chosen at one ballot, and accepted again at others by a minority, by a majority that is not heard, by all; while nodes are down too.
func TestChosenAndAcceptedAgain(t *testing.T) {
	g := quorum.New(5)
	wantPropose(t, g, 0, "a", lost(ask2, 3, 4), 0, "a")
	wantChosen(t, g, 0, "a")
	raise(t, g, 1, 1)
	for i := range 5 {
		voteAt(t, g, 1, "b", i)
		wantChosen(t, g, 0, "a")
	}
	voteAt(t, g, 1, "c", 2, 3, 4)
	wantChosen(t, g, 0, "a")
	wantDown(t, g, 0, 1, 2, 4)
	wantChosen(t, g, 0, "a")
	wantNoPropose(t, g, 3, "d", 0, api.ErrLost)
	wantChosen(t, g, 0, "a")
	wantUp(t, g, 2, 4)
	for !hasLog(g, 3, "a") {
		g.Propose(3, "d", 0)
		wantChosen(t, g, 0, "a")
	}
	wantPropose(t, g, 3, "d", 0, 1, "d")
	wantChosen(t, g, 0, "a")
	wantChosen(t, g, 1, "d")
}

// hasLog tells whether a node's log has that as its last entry.
func hasLog(g *quorum.Group, node int, last string) bool {
	log := g.Log(node)
	return len(log) > 0 && log[len(log)-1] == last
}

// P11.4: each slot has its own.
func TestChosenOfSlots(t *testing.T) {
	g := quorum.New(3)
	for slot := range 50 {
		wantNotChosen(t, g, slot)
		wantPropose(t, g, 0, long(slot), lost(ask2, slot%3), slot, long(slot))
		for i := range slot + 1 {
			wantChosen(t, g, i, long(i))
		}
	}
	wantNotChosen(t, g, 50, -1)
}
