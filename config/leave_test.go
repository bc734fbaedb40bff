package config_test

import (
	"testing"

	"weirkeep/api"
	"weirkeep/config"
)

// wantLeave fails, unless of parts on these servers come those, when a server leaves.
func wantLeave(t *testing.T, servers []int, n int, left []int, parts, want []config.Part) {
	t.Helper()
	c := configOf(servers, parts...)
	d := behind(c, want...)
	d.Servers = left
	wantApply(t, c, leave(n), d)
}

// P12.2: kind 2: what is no server is ErrNone, ahead of ErrLost; one of two is ErrLost.
func TestLeaveRefused(t *testing.T) {
	for _, servers := range [][]int{{0, 1}, {6, 7}, {0, 7}, {2, 5}, {1, 2, 4}, {1, 3, 5, 7}, {0, 1, 2, 3, 4, 5, 6}, {0, 1, 2, 3, 4, 5, 6, 7}} {
		c := configOf(servers, part(0, 9, servers[1], servers[0]), part(9, 256, servers[0], servers[1]))
		for n := range 8 {
			want, e := saidApply(c, leave(n))
			wantAny(t, c, leave(n), want, e)
		}
		for _, n := range wrongNodes() {
			wantNoApply(t, c, leave(n), api.ErrNone)
		}
	}
	c := configOf([]int{2, 5}, part(0, 256, 5, 2))
	wantNoApply(t, c, leave(2), api.ErrLost)
	wantNoApply(t, c, leave(5), api.ErrLost)
	wantNoApply(t, c, leave(3), api.ErrNone)
	c.Servers = []int{2, 4, 5}
	wantNoApply(t, c, leave(3), api.ErrNone)
}

// P12.2: kind 2, of three: all is on the two that are left.
func TestLeaveOfThree(t *testing.T) {
	servers := []int{1, 4, 6}
	parts := []config.Part{part(0, 1, 1, 4), part(1, 2, 4, 1), part(2, 3, 1, 6), part(3, 4, 6, 1), part(4, 5, 4, 6), part(5, 256, 6, 4)}
	wantLeave(t, servers, 1, []int{4, 6}, parts, []config.Part{part(0, 1, 6, 4), part(1, 3, 4, 6), part(3, 4, 6, 4), part(4, 5, 4, 6), part(5, 256, 6, 4)})
	wantLeave(t, servers, 4, []int{1, 6}, parts, []config.Part{part(0, 1, 1, 6), part(1, 2, 6, 1), part(2, 3, 1, 6), part(3, 4, 6, 1), part(4, 5, 1, 6), part(5, 256, 6, 1)})
	wantLeave(t, servers, 6, []int{1, 4}, parts, []config.Part{part(0, 1, 1, 4), part(1, 2, 4, 1), part(2, 3, 1, 4), part(3, 5, 4, 1), part(5, 256, 1, 4)})
}

// P12.2: kind 2: who takes its place, where it was A and where it was B: the lowest one; the next one, where that is the other copy; the third one, where it was itself one of the two lowest ones and the other copy the other one.
func TestLeaveWhoTakesItsPlace(t *testing.T) {
	servers := []int{1, 3, 4, 6}
	for _, c := range []struct {
		n    int
		left []int
		a, b int // the other copy's place stays
		x, y int
	}{
		{4, []int{1, 3, 6}, 4, 6, 1, 6},
		{4, []int{1, 3, 6}, 6, 4, 6, 1},
		{4, []int{1, 3, 6}, 4, 3, 1, 3},
		{4, []int{1, 3, 6}, 3, 4, 3, 1},
		{4, []int{1, 3, 6}, 4, 1, 3, 1},
		{4, []int{1, 3, 6}, 1, 4, 1, 3},
		{6, []int{1, 3, 4}, 6, 1, 3, 1},
		{6, []int{1, 3, 4}, 1, 6, 1, 3},
		{6, []int{1, 3, 4}, 6, 4, 1, 4},
		{6, []int{1, 3, 4}, 4, 6, 4, 1},
		{1, []int{3, 4, 6}, 1, 6, 3, 6},
		{1, []int{3, 4, 6}, 6, 1, 6, 3},
		{1, []int{3, 4, 6}, 1, 3, 4, 3},
		{1, []int{3, 4, 6}, 3, 1, 3, 4},
		{3, []int{1, 4, 6}, 3, 1, 4, 1},
		{3, []int{1, 4, 6}, 1, 3, 1, 4},
		{3, []int{1, 4, 6}, 3, 6, 1, 6},
		{3, []int{1, 4, 6}, 6, 3, 6, 1},
		{3, []int{1, 4, 6}, 4, 6, 4, 6},
		{3, []int{1, 4, 6}, 1, 6, 1, 6},
	} {
		wantLeave(t, servers, c.n, c.left, []config.Part{part(0, 256, c.a, c.b)}, []config.Part{part(0, 256, c.x, c.y)})
		p, q := part(0, 100, 0, 0), part(101, 256, 0, 0) // beside it lie parts that nothing happens to
		p.A, p.B, q.A, q.B = c.left[2], c.left[1], c.left[2], c.left[1]
		if c.x != p.A || c.y != p.B {
			wantLeave(t, servers, c.n, c.left, []config.Part{p, part(100, 101, c.a, c.b), q}, []config.Part{p, part(100, 101, c.x, c.y), q})
		}
	}
}

// P12.2: kind 2: which parts are put together: those that touch and have the same copies behind it, also where it was no copy; not those with the copies the other way round.
func TestLeaveTogether(t *testing.T) {
	servers, left := []int{0, 1, 2, 3}, []int{0, 1, 2}
	for _, c := range []struct{ parts, want []config.Part }{
		{ // with the one ahead
			[]config.Part{part(0, 10, 0, 2), part(10, 20, 3, 2), part(20, 256, 1, 2)},
			[]config.Part{part(0, 20, 0, 2), part(20, 256, 1, 2)}},
		{ // with the one behind
			[]config.Part{part(0, 10, 1, 2), part(10, 20, 3, 2), part(20, 256, 0, 2)},
			[]config.Part{part(0, 10, 1, 2), part(10, 256, 0, 2)}},
		{ // with both
			[]config.Part{part(0, 10, 0, 2), part(10, 20, 3, 2), part(20, 256, 0, 2)},
			[]config.Part{part(0, 256, 0, 2)}},
		{ // with none
			[]config.Part{part(0, 10, 1, 2), part(10, 20, 3, 2), part(20, 256, 2, 1)},
			[]config.Part{part(0, 10, 1, 2), part(10, 20, 0, 2), part(20, 256, 2, 1)}},
		{ // the other way round
			[]config.Part{part(0, 10, 2, 0), part(10, 20, 3, 2), part(20, 256, 2, 0)},
			[]config.Part{part(0, 10, 2, 0), part(10, 20, 0, 2), part(20, 256, 2, 0)}},
		{ // the same A alone, the same B alone
			[]config.Part{part(0, 10, 0, 1), part(10, 20, 3, 2), part(20, 256, 1, 2)},
			[]config.Part{part(0, 10, 0, 1), part(10, 20, 0, 2), part(20, 256, 1, 2)}},
		{ // several that were on it, in one row
			[]config.Part{part(0, 10, 1, 3), part(10, 20, 1, 0), part(20, 30, 3, 0), part(30, 40, 1, 0), part(40, 50, 0, 3), part(50, 256, 3, 1)},
			[]config.Part{part(0, 40, 1, 0), part(40, 256, 0, 1)}},
		{ // those that do not touch stay
			[]config.Part{part(0, 10, 3, 2), part(10, 20, 1, 0), part(20, 256, 3, 2)},
			[]config.Part{part(0, 10, 0, 2), part(10, 20, 1, 0), part(20, 256, 0, 2)}},
		{ // it was no copy at all
			[]config.Part{part(0, 10, 0, 1), part(10, 20, 0, 1), part(20, 30, 1, 0), part(30, 255, 1, 2), part(255, 256, 1, 2)},
			[]config.Part{part(0, 20, 0, 1), part(20, 30, 1, 0), part(30, 256, 1, 2)}},
		{ // elsewhere than where it was a copy
			[]config.Part{part(0, 1, 1, 2), part(1, 2, 1, 2), part(2, 100, 3, 1), part(100, 150, 2, 1), part(150, 256, 2, 1)},
			[]config.Part{part(0, 2, 1, 2), part(2, 100, 0, 1), part(100, 256, 2, 1)}},
	} {
		wantLeave(t, servers, 3, left, c.parts, c.want)
	}
}

// P12.2: kind 2: parts of a block each, of all pairs of servers, by each server that leaves.
func TestLeaveAllPairs(t *testing.T) {
	servers := []int{0, 1, 2, 3, 4, 5, 6, 7}
	var parts []config.Part
	for a := range 8 {
		for b := range 8 {
			if a != b {
				parts = append(parts, part(len(parts), len(parts)+1, a, b))
			}
		}
	}
	parts = append(parts, part(len(parts), 256, 0, 7))
	c := configOf(servers, parts...)
	for n := range 8 {
		want, e := saidApply(c, leave(n))
		if e != api.OK || len(want.Servers) != 7 {
			t.Fatal(want, e)
		}
		wantApply(t, c, leave(n), want)
	}
}
