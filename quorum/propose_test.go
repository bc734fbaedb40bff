package quorum_test

import (
	"strings"
	"testing"

	"weirkeep/api"
	"weirkeep/quorum"
)

// P11.2: values of no byte, of MaxText bytes, and around; bytes count, not letters.
func TestProposeValues(t *testing.T) {
	for n := 1; n <= 5; n++ {
		for _, value := range []string{"", "a", "\x00", "\xff\xfe", long(255), long(256), long(1023), long(1024), strings.Repeat("é", 512)} {
			g := quorum.New(n)
			wantPropose(t, g, n-1, value, 0, 0, value)
			wantChosen(t, g, 0, value)
			wantLog(t, g, n-1, value)
			wantLearn(t, g, 0, n-1, min(n-1, 1), api.OK)
			wantLog(t, g, 0, value)
		}
	}
}

// P11.2: a value of more than MaxText bytes is refused, whatever is lost; nothing changes.
func TestProposeLong(t *testing.T) {
	g := quorum.New(3)
	wantPropose(t, g, 0, "a", 0, 0, "a")
	for _, value := range []string{long(1025), long(1026), long(2048), long(5000), strings.Repeat("é", 512) + "x"} {
		for _, loss := range []uint64{0, 1, allLost} {
			wantNoPropose(t, g, 0, value, loss, api.ErrLong)
			wantNoPropose(t, g, 1, value, loss, api.ErrLong)
		}
	}
	wantLogs(t, g, []string{"a"}, nil, nil)
	wantChosen(t, g, 0, "a")
	wantNotChosen(t, g, 1)
	wantPropose(t, g, 1, "b", 0, 0, "a")
}

// P11.2: a node that is down is refused, also where the value is too long; nothing changes.
func TestProposeDown(t *testing.T) {
	for n := 1; n <= 5; n++ {
		for i := range n {
			g := quorum.New(n)
			wantDown(t, g, i)
			for _, value := range []string{"", "a", long(1024), long(1025)} {
				for _, loss := range []uint64{0, 1, allLost} {
					wantNoPropose(t, g, i, value, loss, api.ErrDead)
				}
			}
			wantNotChosen(t, g, 0)
			wantUp(t, g, i)
			wantNoPropose(t, g, i, long(1025), 0, api.ErrLong)
			wantPropose(t, g, i, "a", 0, 0, "a")
		}
	}
}

// filled is a group of n nodes, of which the first has a log of so many entries.
func filled(t *testing.T, n, entries int) *quorum.Group {
	t.Helper()
	g := quorum.New(n)
	for slot := range entries {
		wantPropose(t, g, 0, long(slot%9), 0, slot, long(slot%9))
	}
	return g
}

// P11.2: a log of one entry less than MaxLog takes one more, and is full then; a node that is down, and a value that is too long, stand ahead of that.
func TestProposeFull(t *testing.T) {
	g := filled(t, 1, 4095)
	wantNoPropose(t, g, 0, long(1025), 0, api.ErrLong)
	wantNoPropose(t, g, 0, "x", allLost, api.ErrLost)
	wantPropose(t, g, 0, "last", 0, 4095, "last")
	full := g.Log(0)
	if len(full) != 4096 || full[4095] != "last" || full[4094] != long(4094%9) {
		t.Fatalf("the log is %s", toldLog(full))
	}
	for range 2 {
		for _, loss := range []uint64{0, 1, allLost} {
			wantNoPropose(t, g, 0, "x", loss, api.ErrFull)
			wantNoPropose(t, g, 0, "", loss, api.ErrFull)
			wantNoPropose(t, g, 0, long(1024), loss, api.ErrFull)
			wantNoPropose(t, g, 0, long(1025), loss, api.ErrLong)
			wantNoPropose(t, g, 1, long(1025), loss, api.ErrNone)
		}
		wantDown(t, g, 0)
		wantNoPropose(t, g, 0, "x", 0, api.ErrDead)
		wantNoPropose(t, g, 0, long(1025), 0, api.ErrDead)
		wantUp(t, g, 0)
	}
	wantLog(t, g, 0, full...)
	wantChosen(t, g, 4095, "last")
	wantChosen(t, g, 0, "")
	wantNotChosen(t, g, 4096)
}

// P11.2, P11.3: a log is full by itself: other nodes go on with theirs, and are full when they learned it.
func TestFullOfOneNode(t *testing.T) {
	g := filled(t, 3, 4096)
	wantNoPropose(t, g, 0, "x", 0, api.ErrFull)
	wantDown(t, g, 0, 1, 2)
	wantUp(t, g, 0, 1, 2)
	wantNoPropose(t, g, 0, "x", 0, api.ErrFull)
	wantNoPropose(t, g, 1, "x", 0, api.ErrLost)
	wantPropose(t, g, 1, "x", 0, 0, "")
	wantPropose(t, g, 1, "x", 0, 1, long(1))
	wantLearn(t, g, 1, 0, 4094, api.OK)
	wantLearn(t, g, 1, 0, 0, api.OK)
	wantNoPropose(t, g, 1, "x", 0, api.ErrFull)
	wantLog(t, g, 1, g.Log(0)...)
	wantNoPropose(t, g, 2, "x", 0, api.ErrLost)
	wantPropose(t, g, 2, "x", 0, 0, "")
	wantLog(t, g, 2, "")
}

// P11.2: with a part of the nodes down, it comes to a majority, or it does not, whoever proposes.
func TestMajorityUp(t *testing.T) {
	eachPart(func(n, p int, in, but []int) {
		g := quorum.New(n)
		wantDown(t, g, but...)
		if enough(n, in) {
			wantPropose(t, g, p, "a", 0, 0, "a")
			wantChosen(t, g, 0, "a")
			return
		}
		wantNoPropose(t, g, p, "a", 0, api.ErrLost)
		wantNotChosen(t, g, 0)
		wantUp(t, g, but...)
		wantLog(t, g, p)
		wantPropose(t, g, p, "a", 0, 0, "a")
	}, true)
}

// enough tells whether these are more than half of n nodes.
func enough(n int, nodes []int) bool {
	return len(nodes) > map[int]int{1: 0, 2: 1, 3: 1, 4: 2, 5: 2}[n]
}

// eachPart calls f with each part of the nodes of each group, the others, and each node, of which p is one of the part where that is asked for.
func eachPart(f func(n, p int, in, but []int), within bool) {
	for n := 1; n <= 5; n++ {
		for set := range 1 << n {
			in, but := nodesOf(n, set)
			for p := range n {
				if !within || set>>p&1 == 1 {
					f(n, p, in, but)
				}
			}
		}
	}
}

// P11.2: each of the four messages of a part of the nodes is lost: it comes to a majority, or it does not, whoever proposes; what is lost on its way back was done.
func TestMajorityHeard(t *testing.T) {
	eachPart(func(n, p int, in, but []int) {
		for _, bits := range []uint64{ask1, answer1, ask1 | answer1, ask2, answer2, ask2 | answer2, ask1 | ask2, answer1 | answer2, ask1 | answer1 | ask2 | answer2} {
			g := quorum.New(n)
			loss := lost(bits, but...)
			if enough(n, in) {
				wantPropose(t, g, p, "a", loss, 0, "a")
				wantLog(t, g, p, "a")
				wantChosen(t, g, 0, "a")
				continue
			}
			wantNoPropose(t, g, p, "a", loss, api.ErrLost)
			wantLog(t, g, p)
			wantChosenIf(t, g, 0, "a", bits == answer2)
		}
	}, false)
}

// P11.2: a part of the nodes refuses in both rounds, since it promised a higher ballot.
func TestMajorityRefuses(t *testing.T) {
	eachPart(func(n, p int, in, but []int) {
		if n == 1 {
			return
		}
		g, q := quorum.New(n), others(n, p)[0]
		raise(t, g, q, 1)
		prepareAt(t, g, q, but...)
		if enough(n, in) {
			wantPropose(t, g, p, "a", 0, 0, "a")
			wantChosen(t, g, 0, "a")
			return
		}
		wantNoPropose(t, g, p, "a", 0, api.ErrLost)
		wantNotChosen(t, g, 0)
		wantPropose(t, g, p, "a", 0, 0, "a")
	}, false)
}

// P11.2: who was not asked in the first round refuses in the second; those that are left are just a majority, or lack one node, which is lost.
func TestRefusalInSecondRound(t *testing.T) {
	for n := 3; n <= 5; n++ {
		refusing := all(n)[n/2+1:]
		loss := lost(ask1, refusing...)
		for p := range n {
			build := func() *quorum.Group {
				g, q := quorum.New(n), others(n, p)[n-2]
				raise(t, g, q, 1)
				prepareAt(t, g, q, refusing...)
				return g
			}
			g := build()
			wantPropose(t, g, p, "a", loss, 0, "a")
			wantChosen(t, g, 0, "a")
			for _, bits := range []uint64{ask2, answer2, ask2 | answer2} {
				g := build()
				wantNoPropose(t, g, p, "a", loss|lost(bits, 1), api.ErrLost)
				wantLog(t, g, p)
				wantChosenIf(t, g, 0, "a", bits == answer2)
			}
		}
	}
}

// P11.2: who answered neither in the first round nor promised anything may be heard in the second.
func TestHeardInSecondRoundOnly(t *testing.T) {
	for _, bits := range []uint64{ask1, answer1} {
		g := quorum.New(5)
		wantPropose(t, g, 2, "a", lost(bits, 0, 1)|lost(ask2, 3, 4), 0, "a")
		wantChosen(t, g, 0, "a")
		g = quorum.New(5)
		wantNoPropose(t, g, 2, "a", lost(bits, 0, 1)|lost(ask2, 2, 3, 4), api.ErrLost)
		wantNotChosen(t, g, 0)
	}
}

// P11.2: a request of the first round that is lost was not done; one whose answer is lost was: it is promised.
func TestPrepareLost(t *testing.T) {
	for n := 2; n <= 5; n++ {
		g := quorum.New(n)
		wantNoPropose(t, g, n-1, "a", lost(ask1, all(n)...), api.ErrLost)
		wantPropose(t, g, 0, "b", 0, 0, "b")
		g = quorum.New(n)
		wantNoPropose(t, g, n-1, "a", lost(answer1, all(n)...), api.ErrLost)
		wantNoPropose(t, g, 0, "b", 0, api.ErrLost)
		wantPropose(t, g, 0, "b", 0, 0, "b")
		g = quorum.New(n)
		wantNoPropose(t, g, n-1, "a", lost(ask1|answer1, all(n)...), api.ErrLost)
		wantPropose(t, g, 0, "b", 0, 0, "b")
	}
}

// P11.2: a request of the second round that is lost was not done; one whose answer is lost was: it is voted for, and told to who proposes next.
func TestAcceptLost(t *testing.T) {
	for n := 2; n <= 5; n++ {
		g := quorum.New(n)
		wantNoPropose(t, g, 0, "a", lost(ask2, all(n)...), api.ErrLost)
		wantNotChosen(t, g, 0)
		wantPropose(t, g, n-1, "b", 0, 0, "b")
		g = quorum.New(n)
		wantNoPropose(t, g, 0, "a", lost(answer2, all(n)...), api.ErrLost)
		wantChosen(t, g, 0, "a")
		wantPropose(t, g, n-1, "b", 0, 0, "a")
		g = quorum.New(n)
		wantNoPropose(t, g, 0, "a", lost(ask2|answer2, all(n)...), api.ErrLost)
		wantNotChosen(t, g, 0)
		wantPropose(t, g, n-1, "b", 0, 0, "b")
	}
}

// P11.2: where less than a majority promised, nobody is asked to accept anything.
func TestNoSecondRound(t *testing.T) {
	for n := 2; n <= 5; n++ {
		in, but := all(n)[:n/2], all(n)[n/2:]
		g := quorum.New(n)
		wantNoPropose(t, g, 0, "a", lost(answer1, but...), api.ErrLost)
		wantNotChosen(t, g, 0)
		for range 2 {
			wantNoPropose(t, g, n-1, "b", lost(ask1|ask2, in...)|lost(ask2, but...), api.ErrLost)
		}
		wantPropose(t, g, n-1, "b", 0, 0, "b")
	}
}

// P11.2: bits above those of the nodes say nothing.
func TestBitsAbove(t *testing.T) {
	for n := 1; n <= 5; n++ {
		for bit := 4 * n; bit < 64; bit++ {
			g := quorum.New(n)
			for i := range n {
				wantPropose(t, g, 0, long(i), 1<<bit, i, long(i))
			}
		}
		g := quorum.New(n)
		wantPropose(t, g, n-1, "a", ^uint64(0)<<(4*n), 0, "a")
		wantNoPropose(t, g, n-1, "b", ^uint64(0)<<(4*n)|lost(ask2, all(n)...), api.ErrLost)
		wantNotChosen(t, g, 1)
	}
}

// P11.2: the examples of the document, and a longer row by hand, with each ballot.
func TestProposeByHand(t *testing.T) {
	g := quorum.New(3)
	wantPropose(t, g, 0, "a", 0, 0, "a")                                  // 1
	wantPropose(t, g, 1, "b", 0, 0, "a")                                  // 2
	wantPropose(t, g, 1, "b", 0, 1, "b")                                  // 10
	wantNoPropose(t, g, 2, "c", 0, api.ErrLost)                           // 3, behind 10
	wantPropose(t, g, 2, "c", 0, 0, "a")                                  // 19
	wantPropose(t, g, 2, "c", 0, 1, "b")                                  // 27
	wantPropose(t, g, 2, "c", lost(ask1|ask2, 0), 2, "c")                 // 35, of which node 0 hears nothing
	wantNoPropose(t, g, 0, "d", 0, api.ErrLost)                           // 9, behind 27 and 35
	wantPropose(t, g, 0, "d", lost(ask1, 1), 1, "b")                      // 41
	wantPropose(t, g, 0, "d", lost(ask1|ask2, 1), 2, "c")                 // 49: node 2 voted for it
	wantNoPropose(t, g, 0, "d", lost(ask2, 1, 2), api.ErrLost)            // 57: node 0 votes for it
	wantNoPropose(t, g, 1, "e", 0, api.ErrLost)                           // 18
	wantLearn(t, g, 1, 0, 1, api.OK)                                      // what node 1 has is a, b, c
	wantPropose(t, g, 1, "e", lost(ask1, 0), 3, "e")                      // 66: of node 0's vote it hears nothing
	wantNoPropose(t, g, 0, "f", lost(answer1|answer2, 1, 2), api.ErrLost) // 65, behind 66: but node 0 alone is heard
	wantPropose(t, g, 0, "f", 0, 3, "e")                                  // 73
	wantLogs(t, g, []string{"a", "b", "c", "e"}, []string{"a", "b", "c", "e"}, []string{"a", "b", "c"})
	for slot, want := range []string{"a", "b", "c", "e"} {
		wantChosen(t, g, slot, want)
	}
	wantNotChosen(t, g, 4)
}
