package quorum_test

import (
	"testing"

	"weirkeep/api"
	"weirkeep/quorum"
)

// withLogs is a group of which the nodes' logs have so many entries, each of the value of its slot.
func withLogs(t *testing.T, lengths ...int) *quorum.Group {
	t.Helper()
	g := quorum.New(len(lengths))
	for i, length := range lengths {
		raise(t, g, i, 100*i)
		for slot := range length {
			wantPropose(t, g, i, long(slot), 0, slot, long(slot))
		}
	}
	return g
}

// longs are the values of so many slots.
func longs(length int) []string {
	var log []string
	for slot := range length {
		log = append(log, long(slot))
	}
	return log
}

// P11.3: from a log that is longer, by one and by more, as long, shorter, empty, and from oneself.
func TestLearn(t *testing.T) {
	for _, to := range []int{0, 1, 2, 3, 8, 20} {
		for _, from := range []int{0, 1, 2, 3, 4, 9, 20, 21} {
			for _, c := range [][3]int{{0, 1, 2}, {1, 0, 2}, {2, 0, 1}, {1, 2, 0}} {
				node, of, third := c[0], c[1], c[2]
				lengths := [3]int{}
				lengths[node], lengths[of], lengths[third] = to, from, 5
				g := withLogs(t, lengths[:]...)
				wantLearn(t, g, node, node, 0, api.OK)
				wantLearn(t, g, node, of, max(from-to, 0), api.OK)
				lengths[node] = max(from, to)
				wantLogs(t, g, longs(lengths[0]), longs(lengths[1]), longs(lengths[2]))
				wantLearn(t, g, node, of, 0, api.OK)
				wantLearn(t, g, of, node, max(to-from, 0), api.OK)
				lengths[of] = max(from, to)
				wantLogs(t, g, longs(lengths[0]), longs(lengths[1]), longs(lengths[2]))
			}
		}
	}
}

// P11.3: who learned goes on behind what it learned, and needs no vote for that.
func TestLearnAndGoOn(t *testing.T) {
	g := withLogs(t, 7, 0, 0)
	wantLearn(t, g, 2, 0, 7, api.OK)
	wantPropose(t, g, 2, "x", 0, 7, "x") // 203, behind 49
	wantLearn(t, g, 1, 2, 8, api.OK)
	wantLearn(t, g, 0, 1, 1, api.OK)
	wantLogs(t, g, append(longs(7), "x"), append(longs(7), "x"), append(longs(7), "x"))
}

// P11.3: a node that there is not stands ahead of one that is down; either that is down, and oneself; nothing changes.
func TestLearnRefused(t *testing.T) {
	for n := 1; n <= 5; n++ {
		for down := range 1 << n {
			lengths := make([]int, n)
			lengths[n-1] = 3
			g := withLogs(t, lengths...)
			dead, _ := nodesOf(n, down)
			wantDown(t, g, dead...)
			for i := range n {
				for _, wrong := range []int{-1, n, n + 1, 5, 6} {
					if wrong < 0 || wrong >= n {
						wantLearn(t, g, i, wrong, 0, api.ErrNone)
						wantLearn(t, g, wrong, i, 0, api.ErrNone)
					}
				}
				for j := range n {
					if (down>>i|down>>j)&1 == 1 {
						wantLearn(t, g, i, j, 0, api.ErrDead)
					}
				}
			}
			for i := range n - 1 {
				wantLog(t, g, i)
			}
			wantLog(t, g, n-1, longs(3)...)
			wantUp(t, g, dead...)
			if n > 1 {
				wantLearn(t, g, 0, n-1, 3, api.OK)
			}
		}
	}
}

// P11.3: what was learned lasts while the node is down.
func TestLearnedLasts(t *testing.T) {
	g := withLogs(t, 4, 0)
	wantLearn(t, g, 1, 0, 4, api.OK)
	wantDown(t, g, 0, 1)
	wantLearn(t, g, 1, 0, 0, api.ErrDead)
	wantLogs(t, g, longs(4), longs(4))
	wantUp(t, g, 1)
	wantLearn(t, g, 1, 0, 0, api.ErrDead)
	wantLearn(t, g, 0, 1, 0, api.ErrDead)
	wantLearn(t, g, 1, 1, 0, api.OK)
	wantLogs(t, g, longs(4), longs(4))
}
