package quorum_test

import (
	"slices"
	"testing"

	"weirkeep/api"
	"weirkeep/quorum"
)

// voteAt lets just these nodes vote for a value of slot 0, by the next ballot of a node that all may hear.
func voteAt(t *testing.T, g *quorum.Group, node int, value string, nodes ...int) {
	t.Helper()
	loss := lost(answer2, all(g.Len())...)
	for i := range g.Len() {
		if !slices.Contains(nodes, i) {
			loss |= lost(ask2, i)
		}
	}
	wantNoPropose(t, g, node, value, loss, api.ErrLost)
}

// hearing is the loss by which just these nodes of a group of n hear anything.
func hearing(n int, nodes ...int) uint64 {
	loss := uint64(0)
	for i := range n {
		if !slices.Contains(nodes, i) {
			loss |= lost(ask1|ask2, i)
		}
	}
	return loss
}

// P11.2: where nothing was voted for, its own value is proposed, also where something was proposed, and nobody heard of it.
func TestValueOfNone(t *testing.T) {
	for n := 1; n <= 5; n++ {
		g := quorum.New(n)
		wantNoPropose(t, g, 0, "a", lost(ask2, all(n)...), api.ErrLost)
		wantNoPropose(t, g, 0, "b", lost(answer1, all(n)...), api.ErrLost)
		wantPropose(t, g, 0, "c", 0, 0, "c")
		wantPropose(t, g, 0, "d", 0, 1, "d")
	}
}

// P11.2: where one node voted, that is proposed where it is heard, whoever voted and whoever proposes; its own, where its request, or its answer, is lost, or it is down.
func TestValueOfOne(t *testing.T) {
	for n := 3; n <= 5; n++ {
		for voter := range n {
			for p := 1; p < n; p++ {
				build := func(value string) *quorum.Group {
					g := quorum.New(n)
					voteAt(t, g, 0, value, voter)
					wantNotChosen(t, g, 0)
					return g
				}
				for _, value := range []string{"", "a", long(1024)} {
					wantPropose(t, build(value), p, "b", 0, 0, value)
				}
				wantPropose(t, build("a"), p, "b", lost(ask1, voter), 0, "b")
				wantPropose(t, build("a"), p, "b", lost(answer1, voter), 0, "b")
				wantPropose(t, build("a"), p, "b", lost(ask2|answer2, voter), 0, "a")
				if voter != p {
					g := build("a")
					wantDown(t, g, voter)
					wantPropose(t, g, p, "b", 0, 0, "b")
				}
			}
		}
	}
}

// P11.2: where several voted by other ballots, the one of the highest is proposed, of those that are heard, wherever they stand.
func TestValueOfSeveral(t *testing.T) {
	for _, order := range [][]int{{0, 1, 2}, {0, 2, 1}, {1, 0, 2}, {1, 2, 0}, {2, 0, 1}, {2, 1, 0}} {
		low, mid, high := order[0], order[1], order[2]
		build := func() *quorum.Group {
			g := quorum.New(5)
			for i, voter := range order {
				raise(t, g, 3, i)
				wantNoPropose(t, g, 3, []string{"low", "mid", "high"}[i], hearing(5, 3, 4, voter)|lost(ask2, 3, 4), api.ErrLost)
			}
			wantNotChosen(t, g, 0)
			raise(t, g, 4, 20)
			return g
		}
		wantPropose(t, build(), 4, "own", 0, 0, "high")
		wantPropose(t, build(), 4, "own", hearing(5, low, mid, 4), 0, "mid")
		wantPropose(t, build(), 4, "own", hearing(5, low, high, 3), 0, "high")
		wantPropose(t, build(), 4, "own", hearing(5, mid, high, 4), 0, "high")
		wantPropose(t, build(), 4, "own", hearing(5, 3, 4, low), 0, "low")
		wantPropose(t, build(), 4, "own", hearing(5, 3, 4, mid), 0, "mid")
		wantPropose(t, build(), 4, "own", lost(answer1, high), 0, "mid")
		wantPropose(t, build(), 4, "own", lost(answer1, high, mid), 0, "low")
		wantNoPropose(t, build(), 4, "own", lost(answer1, low, mid, high), api.ErrLost)
	}
}

// P11.2: a node that voted once by a low ballot, and again by a higher one, tells the latter alone.
func TestValueOfLaterVote(t *testing.T) {
	g := quorum.New(3)
	voteAt(t, g, 0, "a", 0)
	wantNoPropose(t, g, 1, "b", hearing(3, 1, 2)|lost(ask2, 2), api.ErrLost)
	raise(t, g, 2, 1)
	wantNoPropose(t, g, 2, "c", lost(ask1, 1)|lost(ask2, 1, 2), api.ErrLost) // node 0 votes for a again, by 11
	wantPropose(t, g, 2, "d", 0, 0, "a")
	wantChosen(t, g, 0, "a")
}

// P11.2: a vote of a node that refuses is not told: the highest one of those that promised counts.
func TestValueOfRefusing(t *testing.T) {
	g := quorum.New(3)
	voteAt(t, g, 0, "a", 0)
	raise(t, g, 2, 3)
	prepareAt(t, g, 2, 0)
	wantPropose(t, g, 1, "c", 0, 0, "c") // of node 0, which promised 27, there is no vote
	wantNoPropose(t, g, 0, "d", lost(ask1|ask2, 2), api.ErrLost)
	wantPropose(t, g, 0, "d", lost(ask1|ask2, 2), 0, "c")
}

// P11.2: votes of other slots, by higher ballots too, say nothing of this one.
func TestValueOfSlot(t *testing.T) {
	g := quorum.New(3)
	for slot, value := range []string{"a", "b", "c"} {
		wantPropose(t, g, 0, value, 0, slot, value)
	}
	wantNoPropose(t, g, 0, "d", lost(ask2, 1, 2), api.ErrLost)
	raise(t, g, 1, 4)
	for slot, value := range []string{"a", "b", "c", "d"} {
		wantPropose(t, g, 1, "e", 0, slot, value)
	}
	wantPropose(t, g, 1, "e", 0, 4, "e")
}

// P11.2: values that are alike are proposed as others are.
func TestValueAgain(t *testing.T) {
	g := quorum.New(3)
	for slot := range 5 {
		wantPropose(t, g, 0, "same", 0, slot, "same")
		wantChosen(t, g, slot, "same")
	}
	wantLog(t, g, 0, "same", "same", "same", "same", "same")
}
