package quorum_test

import (
	"fmt"
	"math"
	"slices"
	"strings"
	"testing"

	"weirkeep/api"
	"weirkeep/quorum"
)

// Of a node's four bits of loss: the request and the answer of the first round, and of the second.
const (
	ask1 = 1 << iota
	answer1
	ask2
	answer2
)

// allLost lets nothing be heard, and nothing be done.
const allLost = math.MaxUint64

// lost is the loss of these bits of these nodes.
func lost(bits uint64, nodes ...int) uint64 {
	var loss uint64
	for _, i := range nodes {
		loss |= bits << (4 * i)
	}
	return loss
}

// nodesOf are all nodes of a group of n that are in set, a bit a node; but are those that are not.
func nodesOf(n, set int) (in, but []int) {
	for i := range n {
		if set>>i&1 == 1 {
			in = append(in, i)
		} else {
			but = append(but, i)
		}
	}
	return in, but
}

// others are all nodes of a group of n but one.
func others(n, one int) []int {
	_, but := nodesOf(n, 1<<one)
	return but
}

// all are the nodes of a group of n.
func all(n int) []int { return others(n, n) }

// wrongNodes are numbers of which a group of n has no node: just outside, far outside, and such as were one if they were cut to fewer bits.
func wrongNodes(n int) []int {
	return []int{-1, -2, -5, n, n + 1, 5, 6, 7, 8, 64, 256, 1 << 16, 1 << 32, 1<<32 + n - 1, math.MinInt32, math.MinInt, math.MinInt + 1, math.MaxInt32, math.MaxInt - 1, math.MaxInt}
}

// long is a text of so many bytes, of which no two that lie near to each other are alike.
func long(bytes int) string {
	s := make([]byte, bytes)
	for i := range s {
		s[i] = byte(i*7 + i>>8)
	}
	return string(s)
}

// toldLog is a log in few words.
func toldLog(log []string) string {
	var words []string
	for _, s := range log[:min(len(log), 20)] {
		words = append(words, fmt.Sprintf("%.20q", s))
	}
	return fmt.Sprintf("%d entries %s", len(log), strings.Join(words, " "))
}

// wantPropose fails, unless the slot and the value are told.
func wantPropose(t *testing.T, g *quorum.Group, node int, value string, loss uint64, slot int, want string) {
	t.Helper()
	if at, got, e := g.Propose(node, value, loss); at != slot || got != want || e != api.OK {
		t.Fatalf("Propose(%d, %.20q, %#x): %d, %.20q, %d, want %d, %.20q, 0", node, value, loss, at, got, e, slot, want)
	}
}

// wantNoPropose fails, unless there is that error, and neither a slot nor a value.
func wantNoPropose(t *testing.T, g *quorum.Group, node int, value string, loss uint64, want api.Errno) {
	t.Helper()
	if at, got, e := g.Propose(node, value, loss); at != 0 || got != "" || e != want {
		t.Fatalf("Propose(%d, %.20q of %d bytes, %#x): %d, %.20q, %d, want 0, \"\", %d", node, value, len(value), loss, at, got, e, want)
	}
}

func wantLearn(t *testing.T, g *quorum.Group, node, of, by int, want api.Errno) {
	t.Helper()
	if got, e := g.Learn(node, of); got != by || e != want {
		t.Fatalf("Learn(%d, %d): %d, %d, want %d, %d", node, of, got, e, by, want)
	}
}

func wantDown(t *testing.T, g *quorum.Group, nodes ...int) {
	t.Helper()
	for _, i := range nodes {
		if e := g.Down(i); e != api.OK {
			t.Fatalf("Down(%d): %d", i, e)
		}
	}
}

func wantUp(t *testing.T, g *quorum.Group, nodes ...int) {
	t.Helper()
	for _, i := range nodes {
		if e := g.Up(i); e != api.OK {
			t.Fatalf("Up(%d): %d", i, e)
		}
	}
}

func wantLog(t *testing.T, g *quorum.Group, node int, want ...string) {
	t.Helper()
	if got := g.Log(node); !slices.Equal(got, want) {
		t.Fatalf("Log(%d): %s, want %s", node, toldLog(got), toldLog(want))
	}
}

// wantLogs fails, unless the nodes' logs, from 0 on, are these.
func wantLogs(t *testing.T, g *quorum.Group, want ...[]string) {
	t.Helper()
	if g.Len() != len(want) {
		t.Fatalf("Len is %d, want %d", g.Len(), len(want))
	}
	for i, log := range want {
		wantLog(t, g, i, log...)
	}
}

func wantChosen(t *testing.T, g *quorum.Group, slot int, want string) {
	t.Helper()
	if got, ok := g.Chosen(slot); got != want || !ok {
		t.Fatalf("Chosen(%d): %.20q, %t, want %.20q", slot, got, ok, want)
	}
}

func wantNotChosen(t *testing.T, g *quorum.Group, slots ...int) {
	t.Helper()
	for _, slot := range slots {
		if got, ok := g.Chosen(slot); got != "" || ok {
			t.Fatalf("Chosen(%d): %.20q, %t, want none", slot, got, ok)
		}
	}
}

// wantChosenIf is wantChosen, or, where it is not to be so, wantNotChosen.
func wantChosenIf(t *testing.T, g *quorum.Group, slot int, want string, is bool) {
	t.Helper()
	if is {
		wantChosen(t, g, slot, want)
	} else {
		wantNotChosen(t, g, slot)
	}
}

// raise lets a node's round be so much more: it hears nothing of what it proposes.
func raise(t *testing.T, g *quorum.Group, node, by int) {
	t.Helper()
	for range by {
		wantNoPropose(t, g, node, "raise", allLost, api.ErrLost)
	}
}

// prepareAt lets just these nodes be asked to prepare the ballot that a node has now, and to accept nothing.
func prepareAt(t *testing.T, g *quorum.Group, node int, nodes ...int) {
	t.Helper()
	loss := lost(ask2, all(g.Len())...)
	for i := range g.Len() {
		if !slices.Contains(nodes, i) {
			loss |= lost(ask1, i)
		}
	}
	wantNoPropose(t, g, node, "prepare", loss, api.ErrLost)
}
