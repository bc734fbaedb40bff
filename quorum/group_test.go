package quorum_test

import (
	"math"
	"testing"

	"weirkeep/api"
	"weirkeep/quorum"
)

// P11.1: how many nodes there are, at and around each edge of n; all are up, with an empty log, and nothing is chosen.
func TestNew(t *testing.T) {
	for n, want := range map[int]int{
		math.MinInt: 1, math.MinInt32: 1, -5: 1, -1: 1, 0: 1, 1: 1, 2: 2, 3: 3, 4: 4, 5: 5, 6: 5, 7: 5, 8: 5, 100: 5,
		1 << 32: 5, 1<<32 + 2: 5, math.MaxInt: 5,
	} {
		g := quorum.New(n)
		if g.Len() != want {
			t.Errorf("New(%d).Len is %d, want %d", n, g.Len(), want)
		}
		for i := range want {
			wantLog(t, g, i)
		}
		wantNotChosen(t, g, 0, 1, 4095)
		for i := range want {
			wantPropose(t, quorum.New(n), i, "a", 0, 0, "a")
			for j := range want {
				wantLearn(t, g, i, j, 0, api.OK)
			}
		}
		wantNoPropose(t, g, want, "a", 0, api.ErrNone)
	}
}

// P11.1 to P11.3: of no node there is nothing, whatever else is asked; nothing changes, also no round.
func TestNoNode(t *testing.T) {
	for n := 1; n <= 5; n++ {
		g := quorum.New(n)
		wantPropose(t, g, n-1, "a", 0, 0, "a")
		wantDown(t, g, n-1)
		for _, wrong := range wrongNodes(n) {
			wantLog(t, g, wrong)
			for _, e := range []api.Errno{g.Down(wrong), g.Up(wrong)} {
				if e != api.ErrNone {
					t.Fatalf("Down, or Up, of %d: %d", wrong, e)
				}
			}
			for _, value := range []string{"", "x", long(1024), long(1025)} {
				for _, loss := range []uint64{0, 1, allLost} {
					wantNoPropose(t, g, wrong, value, loss, api.ErrNone)
				}
			}
			for i := range n {
				wantLearn(t, g, wrong, i, 0, api.ErrNone)
				wantLearn(t, g, i, wrong, 0, api.ErrNone)
			}
			wantLearn(t, g, wrong, wrong, 0, api.ErrNone)
		}
		wantUp(t, g, n-1)
		for i := range n - 1 {
			wantLog(t, g, i)
		}
		wantLog(t, g, n-1, "a")
		wantChosen(t, g, 0, "a")
		wantPropose(t, g, n-1, "b", 0, 1, "b")
		if g.Len() != n {
			t.Fatalf("Len is %d, want %d", g.Len(), n)
		}
	}
}

// P11.1: each node that there is can be down, and up again, twice too.
func TestDownAndUp(t *testing.T) {
	for n := 1; n <= 5; n++ {
		for i := range n {
			g := quorum.New(n)
			wantUp(t, g, i)
			wantPropose(t, g, i, "a", 0, 0, "a")
			for range 2 {
				wantDown(t, g, i)
				wantDown(t, g, i)
				wantNoPropose(t, g, i, "x", 0, api.ErrDead)
				wantLog(t, g, i, "a")
				wantChosen(t, g, 0, "a")
				wantUp(t, g, i)
				wantUp(t, g, i)
				wantLog(t, g, i, "a")
			}
			wantPropose(t, g, i, "b", 0, 1, "b")
			wantLog(t, g, i, "a", "b")
		}
	}
}

// P11.1: others go on while one is down, and what it missed it has not.
func TestDownMisses(t *testing.T) {
	g := quorum.New(3)
	wantPropose(t, g, 2, "a", 0, 0, "a")
	wantDown(t, g, 2)
	wantLearn(t, g, 0, 1, 0, api.OK)
	wantNoPropose(t, g, 0, "x", 0, api.ErrLost) // ballot 1, behind 3
	wantPropose(t, g, 0, "x", 0, 0, "a")
	wantPropose(t, g, 0, "b", 0, 1, "b")
	wantLog(t, g, 2, "a")
	wantUp(t, g, 2)
	wantLogs(t, g, []string{"a", "b"}, nil, []string{"a"})
	wantDown(t, g, 0)
	wantNoPropose(t, g, 2, "x", 0, api.ErrLost) // node 1 promised ballot 17, and node 2 is at 11
	wantPropose(t, g, 2, "c", 0, 1, "b")        // of node 1 it hears what it missed
}

// P11.1: what a node promised lasts while it is down: it refuses the next lower ballot then.
func TestPromiseLasts(t *testing.T) {
	for _, down := range []bool{false, true} {
		g := quorum.New(3)
		raise(t, g, 2, 4)
		prepareAt(t, g, 2, 0, 1) // ballot 35
		if down {
			wantDown(t, g, 0, 1)
			wantUp(t, g, 0, 1)
		}
		raise(t, g, 1, 4)
		wantNoPropose(t, g, 1, "b", 0, api.ErrLost) // ballot 34
		wantPropose(t, g, 1, "b", 0, 0, "b")
	}
}

// P11.1: what a node voted for lasts while it is down, of all kinds of values, of many slots; so does its log.
func TestVotesLast(t *testing.T) {
	values := []string{"", "a", long(1024), "\xff\x00", long(255), "é", long(256)}
	g := quorum.New(3)
	for i, s := range values {
		wantPropose(t, g, 0, s, lost(ask1|ask2, 2), i, s)
	}
	wantDown(t, g, 0, 1, 2)
	for i, s := range values {
		wantChosen(t, g, i, s)
	}
	wantLogs(t, g, values, nil, nil)
	wantUp(t, g, 0, 1, 2)
	wantLogs(t, g, values, nil, nil)
	wantDown(t, g, 0)
	raise(t, g, 2, len(values))
	for i, s := range values {
		wantPropose(t, g, 2, "other", 0, i, s)
	}
	wantPropose(t, g, 2, "other", 0, len(values), "other")
}

// R3: what Log tells is the caller's own, and stays as it was.
func TestLogIsOwn(t *testing.T) {
	g := quorum.New(3)
	var before [][]string
	for i := range 40 {
		log := g.Log(0)
		before = append(before, log)
		again := g.Log(0)
		for j := range again {
			again[j] = "spoilt"
		}
		again = append(again[:cap(again)], "spoilt")
		clear(again)
		wantPropose(t, g, 0, long(i), 0, i, long(i))
		wantLearn(t, g, 1, 0, 1, api.OK)
		if i%7 == 0 {
			wantDown(t, g, 0)
			wantUp(t, g, 0)
		}
	}
	for i, log := range before {
		if len(log) != i {
			t.Fatalf("the log told ahead of call %d has %d entries", i, len(log))
		}
		for j, s := range log {
			if s != long(j) {
				t.Fatalf("entry %d of the log told ahead of call %d is %.20q", j, i, s)
			}
		}
	}
	one, two := g.Log(1), g.Log(1)
	for j := range one {
		one[j] = "spoilt"
	}
	if len(two) != 40 || two[3] != long(3) || two[39] != long(39) {
		t.Fatalf("the second log told is %s", toldLog(two))
	}
	wantLearn(t, g, 2, 1, 40, api.OK)
	wantLog(t, g, 2, two...)
	wantLog(t, g, 0, two...)
}

// R3: nodes that learned of each other go on by themselves.
func TestLogsOfNodesAreTheirOwn(t *testing.T) {
	for length := range 20 {
		g := quorum.New(3)
		for i := range length {
			wantPropose(t, g, 2, long(i), 0, i, long(i))
		}
		wantLearn(t, g, 1, 2, length, api.OK)
		wantLearn(t, g, 0, 1, length, api.OK)
		at := g.Log(0)
		wantPropose(t, g, 2, "x", 0, length, "x")
		wantPropose(t, g, 2, "y", 0, length+1, "y")
		wantLog(t, g, 0, at...)
		wantLog(t, g, 1, at...)
		wantLearn(t, g, 0, 2, 2, api.OK)
		wantLog(t, g, 1, at...)
		wantLog(t, g, 0, append(at, "x", "y")...)
	}
}
