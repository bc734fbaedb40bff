package quorum_test

import (
	"testing"

	"weirkeep/api"
	"weirkeep/quorum"
)

// wantRound fails, unless that is the round of node p in a group of five, with which way was done, and of which node 4 proposed nothing: by its round before that, of which all nodes hear, it is not in p's way; by just that round it is.
func wantRound(t *testing.T, what string, p, round int, way func(g *quorum.Group)) {
	t.Helper()
	for behind := max(round-1, 0); behind <= round; behind++ {
		g := quorum.New(5)
		way(g)
		raise(t, g, 4, behind)
		prepareAt(t, g, 4, all(5)...)
		want := api.ErrLost
		if behind < round {
			want = api.OK
		}
		if _, _, e := g.Propose(p, "p", 0); e != want {
			t.Errorf("%s: behind the ballot of round %d of node 4 node %d's is answered %d: its round is not %d", what, behind, p, e, round)
		}
	}
}

// P11.2: the round is 0 at first, and one more behind each Propose, whatever comes of it.
func TestRoundRises(t *testing.T) {
	for p := range 4 {
		wantRound(t, "new", p, 0, func(*quorum.Group) {})
		for times := range 6 {
			for what, loss := range map[string]uint64{
				"OK":                         0,
				"OK without two nodes":       lost(ask1|ask2, 2, 3),
				"no request heard":           lost(ask1, all(5)...),
				"no answer heard":            lost(answer1, all(5)...),
				"one less heard":             lost(answer1, 0, 1, 2),
				"no second request heard":    lost(ask2, all(5)...),
				"no second answer heard":     lost(answer2, all(5)...),
				"one second answer less":     lost(answer2, 1, 2, 3),
				"all is lost":                allLost,
				"bits above those of a node": allLost &^ (1<<20 - 1),
			} {
				wantRound(t, what, p, times, func(g *quorum.Group) {
					for range times {
						g.Propose(p, "x", loss)
					}
				})
			}
		}
	}
}

// P11.1, P11.2: what is refused ahead of the rounds, of this node and of others, leaves the round as it was; so do the other calls.
func TestRoundStays(t *testing.T) {
	for p := range 4 {
		for _, before := range []int{0, 3} {
			wantRound(t, "refused", p, before, func(g *quorum.Group) {
				for range before {
					wantNoPropose(t, g, p, "x", allLost, api.ErrLost)
				}
				for range 5 {
					wantNoPropose(t, g, p, long(1025), 0, api.ErrLong)
					wantNoPropose(t, g, 5, "x", 0, api.ErrNone)
					wantNoPropose(t, g, -1, "x", 0, api.ErrNone)
					wantDown(t, g, p)
					wantNoPropose(t, g, p, "x", 0, api.ErrDead)
					wantNoPropose(t, g, p, long(1025), allLost, api.ErrDead)
					wantUp(t, g, p)
					wantLearn(t, g, p, 4, 0, api.OK)
					wantLearn(t, g, p, p, 0, api.OK)
					wantLog(t, g, p)
					wantNotChosen(t, g, 0, -1)
				}
			})
			wantRound(t, "others propose", p, before, func(g *quorum.Group) {
				for range before {
					wantNoPropose(t, g, p, "x", allLost, api.ErrLost)
				}
				q := others(4, p)[0]
				g.Propose(q, "x", 0)
				g.Propose(q, "x", 0)
				wantLearn(t, g, p, q, len(g.Log(q)), api.OK)
			})
		}
	}
}

// ballotAt lets just these nodes promise the ballot of a round of node 3, which proposed nothing.
func ballotAt(t *testing.T, g *quorum.Group, round int, nodes ...int) {
	t.Helper()
	raise(t, g, 3, round)
	prepareAt(t, g, 3, nodes...)
}

// P11.2: behind a node that refuses it is one more than what that one promised, where it is heard in the first round, or in the second; where it is not, it is one more than it was.
func TestRoundBehindRefusal(t *testing.T) {
	for _, promised := range []int{0, 1, 2, 7} {
		for refusing := range 5 {
			for what, c := range map[string]struct {
				loss   uint64
				behind int
			}{
				"heard in both rounds":                              {0, promised + 1},
				"heard in the first":                                {lost(ask2, refusing), promised + 1},
				"heard in the first, answering":                     {lost(answer2, refusing), promised + 1},
				"heard in the second":                               {lost(ask1, refusing), promised + 1},
				"heard in the second, answering":                    {lost(answer1, refusing), promised + 1},
				"asked in neither":                                  {lost(ask1|ask2, refusing), 1},
				"heard in neither":                                  {lost(answer1|answer2, refusing), 1},
				"asked in the first, heard in neither":              {lost(answer1|ask2, refusing), 1},
				"heard in the first, and all but it lost":           {lost(ask1, others(5, refusing)...), promised + 1},
				"heard in the first alone, nobody in the second":    {lost(ask2, all(5)...), promised + 1},
				"heard in the second, where all others are lost":    {lost(ask1, refusing) | lost(ask2, others(5, refusing)...), promised + 1},
				"heard in the second, others' answers are lost":     {lost(answer1, refusing) | lost(answer2, others(5, refusing)...), promised + 1},
				"no majority in the first: the second is not asked": {lost(ask1, refusing) | lost(answer1, others(5, refusing)...), 1},
			} {
				wantRound(t, what, 0, c.behind, func(g *quorum.Group) {
					ballotAt(t, g, promised, refusing)
					g.Propose(0, "x", c.loss)
				})
			}
			if refusing > 0 {
				wantRound(t, "down", 0, 1, func(g *quorum.Group) {
					ballotAt(t, g, promised, refusing)
					wantDown(t, g, refusing)
					wantPropose(t, g, 0, "x", 0, 0, "x")
					wantUp(t, g, refusing)
				})
			}
		}
	}
}

// P11.2: of two that refuse the highest one that is heard counts, wherever it stands, in whichever round.
func TestRoundBehindTwo(t *testing.T) {
	for i := range 20 {
		low, high := i/4, others(5, i/4)[i%4]
		for what, c := range map[string]struct {
			loss   uint64
			behind int
		}{
			"both are heard in both rounds":     {0, 6},
			"both in the first":                 {lost(ask2, low, high), 6},
			"both in the second":                {lost(answer1, low, high), 6},
			"the highest in the second":         {lost(ask1, high), 6},
			"the highest in the first":          {lost(ask1, low) | lost(answer2, high), 6},
			"the highest in the second alone":   {lost(ask1, high) | lost(ask2, low), 6},
			"the highest is not asked":          {lost(ask1|ask2, high), 3},
			"the highest is not heard":          {lost(answer1|answer2, high), 3},
			"the lowest is not heard":           {lost(answer1|answer2, low), 6},
			"the lowest in the second alone":    {lost(ask1, low, high) | lost(answer2, high), 3},
			"none of them is heard":             {lost(ask1|ask2, low) | lost(answer1|answer2, high), 1},
			"nobody is heard":                   {lost(answer1, all(5)...), 1},
			"nobody but the lowest is asked":    {lost(ask1, others(5, low)...), 3},
			"nobody but the highest is asked":   {lost(ask1, others(5, high)...), 6},
			"the highest is all that is heard":  {lost(answer1, others(5, high)...), 6},
			"it is all that the second one has": {lost(ask1|ask2, low) | lost(answer2, others(5, high)...), 6},
		} {
			wantRound(t, what, 0, c.behind, func(g *quorum.Group) {
				ballotAt(t, g, 2, low)
				ballotAt(t, g, 2, high) // node 3's round was 3: 5
				g.Propose(0, "x", c.loss)
			})
		}
	}
}

// P11.2: where a majority refuses, of those that are heard the highest one counts; nobody is asked again, so that the second round's bits say nothing.
func TestRoundBehindThree(t *testing.T) {
	for _, order := range [][]int{{0, 1, 2}, {0, 2, 1}, {1, 0, 2}, {1, 2, 0}, {2, 0, 1}, {2, 1, 0}} {
		low, mid, high := order[0], order[1], order[2]
		for what, c := range map[string]struct {
			loss   uint64
			behind int
		}{
			"all are heard":              {0, 9},
			"the first round alone":      {lost(ask2|answer2, all(5)...), 9},
			"the highest is not asked":   {lost(ask1, high), 6},
			"the highest is not heard":   {lost(answer1, high), 6},
			"the lowest is not heard":    {lost(answer1, low) | lost(ask1, mid), 9},
			"the lowest alone is heard":  {lost(answer1, mid, high), 3},
			"the others are not heard":   {lost(answer1, 3, 4), 9},
			"the highest alone is heard": {lost(ask1, others(5, high)...), 9},
		} {
			wantRound(t, what, 0, c.behind, func(g *quorum.Group) {
				ballotAt(t, g, 2, low)
				ballotAt(t, g, 2, mid)  // node 3's round was 3: 5
				ballotAt(t, g, 2, high) // 8
				wantNoPropose(t, g, 0, "x", c.loss, api.ErrLost)
			})
		}
	}
}

// P11.2: a majority refuses: it is tried in vain, and behind the highest one then; who promised the same round's ballot of a node below is not in the way.
func TestRoundBehindMajority(t *testing.T) {
	for _, promised := range []int{0, 1, 5} {
		wantRound(t, "a majority", 2, promised+1, func(g *quorum.Group) {
			ballotAt(t, g, promised, 0, 1, 2, 4)
			wantNoPropose(t, g, 2, "x", 0, api.ErrLost)
		})
		wantRound(t, "tried twice", 2, promised+2, func(g *quorum.Group) {
			ballotAt(t, g, promised, 0, 1, 2)
			wantNoPropose(t, g, 2, "x", 0, api.ErrLost)
			wantPropose(t, g, 2, "x", 0, 0, "x")
		})
	}
	g := quorum.New(2)
	prepareAt(t, g, 0, 0, 1)
	wantPropose(t, g, 1, "x", 0, 0, "x") // 2, behind 1
	g = quorum.New(2)
	prepareAt(t, g, 1, 0, 1)
	wantNoPropose(t, g, 0, "x", 0, api.ErrLost) // 1, behind 2
	wantPropose(t, g, 0, "x", 0, 0, "x")
}

// P11.2: a round that is above all that is heard is one more alone.
func TestRoundAbove(t *testing.T) {
	for _, own := range []int{1, 2, 9} {
		wantRound(t, "above", 1, own+1, func(g *quorum.Group) {
			ballotAt(t, g, own-1, all(5)...)
			raise(t, g, 1, own)
			wantPropose(t, g, 1, "x", 0, 0, "x")
		})
	}
}

// P11.1: the round lasts while the node is down, and what others promise then counts when they are heard.
func TestRoundLasts(t *testing.T) {
	wantRound(t, "down", 1, 4, func(g *quorum.Group) {
		raise(t, g, 1, 4)
		wantDown(t, g, 1)
		wantUp(t, g, 1)
	})
	wantRound(t, "down, and all with it", 0, 8, func(g *quorum.Group) {
		raise(t, g, 0, 4)
		ballotAt(t, g, 7, 2)
		wantDown(t, g, all(5)...)
		wantUp(t, g, all(5)...)
		wantPropose(t, g, 0, "x", 0, 0, "x")
	})
}
