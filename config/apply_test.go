package config_test

import (
	"math"
	"testing"

	"weirkeep/api"
	"weirkeep/config"
)

// someOrders are orders of each kind, and of none: such as a config of the servers 0, 1 and 2 takes, and such as it refuses.
func someOrders() []config.Order {
	return []config.Order{
		come(3), come(7), come(1), come(-1), come(8),
		leave(2), leave(0), leave(5), leave(-1),
		place(0, 256, 2, 0), place(10, 20, 1, 2), place(5, 5, 0, 1), place(-1, 257, 0, 0), place(0, 1, 1, 1), place(0, 1, 1, 6),
		tables(1), tables(8), tables(0), tables(9),
		{}, {Kind: 5, N: 2}, {Kind: -1}, {Kind: 256},
	}
}

// P12.2: of what is no config Check's error, ahead of each other one, ErrMax too.
func TestApplyOfNoConfig(t *testing.T) {
	for _, w := range wrongs() {
		for _, o := range someOrders() {
			wantNoApply(t, w.c, o, api.ErrArg)
		}
		if w.c.Epoch == 7 {
			w.c.Epoch = 1 << 40
			for _, o := range someOrders() {
				wantNoApply(t, w.c, o, api.ErrArg)
			}
		}
	}
}

// P12.2: at the last epoch ErrMax, ahead of each other error; at the one ahead of it each order is taken, or refused, as ever.
func TestApplyAtLastEpoch(t *testing.T) {
	c := configOf([]int{0, 1, 2}, part(0, 10, 0, 1), part(10, 256, 2, 1))
	for _, o := range someOrders() {
		c.Epoch = 1 << 40
		wantNoApply(t, c, o, api.ErrMax)
		c.Epoch--
		want, e := saidApply(c, o)
		wantAny(t, c, o, want, e)
		if e == api.OK && want.Epoch != 1<<40 {
			t.Error(want)
		}
	}
}

// P12.2: kinds that there are not, whatever else the order says.
func TestApplyNoKind(t *testing.T) {
	c := configOf([]int{0, 1, 2}, part(0, 256, 0, 1))
	for _, kind := range []int{
		math.MinInt, math.MinInt32, -256, -255, -4, -3, -2, -1, 0, 5, 6, 7, 8, 9, 127, 128, 254, 255, 256, 257, 258, 259, 260, 1 << 16, 1<<16 + 1,
		1 << 32, 1<<32 + 1, 1<<32 + 4, math.MaxInt,
	} {
		for _, n := range []int{-1, 0, 2, 3, 5, 8} {
			wantNoApply(t, c, config.Order{Kind: kind, N: n}, api.ErrArg)
			wantNoApply(t, c, config.Order{Kind: kind, N: n, M: 1, R: span(0, 256)}, api.ErrArg)
			wantNoApply(t, c, config.Order{Kind: kind, N: n, M: n, R: span(-1, 257)}, api.ErrArg)
		}
	}
}

// P12.2: what a kind does not name says nothing.
func TestApplyUnnamed(t *testing.T) {
	c := configOf([]int{0, 1, 2}, part(0, 256, 0, 1))
	for _, o := range []config.Order{come(4), come(2), come(8), leave(0), leave(3), tables(5), tables(9)} {
		want, e := saidApply(c, o)
		for _, m := range []int{-1, 0, 2, o.N, 1 << 40, math.MinInt} {
			for _, r := range []api.Range{{}, span(0, 256), span(10, 5), span(-1, 3), span(5, 257), span(math.MinInt, math.MaxInt)} {
				o.M, o.R = m, r
				wantAny(t, c, o, want, e)
			}
		}
	}
}

// P12.2: kind 1: each node, at and around the edges, of lists of servers that it is one of, and stands ahead of, between and behind.
func TestCome(t *testing.T) {
	for _, servers := range [][]int{{0, 1}, {6, 7}, {0, 7}, {2, 5}, {1, 3, 6}, {0, 1, 2, 3, 4, 5, 6}, {1, 2, 3, 4, 5, 6, 7}, {0, 1, 2, 3, 4, 5, 6, 7}} {
		c := configOf(servers, part(0, 9, servers[1], servers[0]), part(9, 256, servers[0], servers[1]))
		for n := range 8 {
			want, e := saidApply(c, come(n))
			wantAny(t, c, come(n), want, e)
		}
		for _, n := range wrongNodes() {
			wantNoApply(t, c, come(n), api.ErrArg)
		}
	}
}

// P12.2: kind 1, by hand: below, between and above the others; a part on it there is not yet; twice.
func TestComeByHand(t *testing.T) {
	c := configOf([]int{2, 5}, part(0, 256, 5, 2))
	for n, servers := range map[int][]int{0: {0, 2, 5}, 1: {1, 2, 5}, 3: {2, 3, 5}, 4: {2, 4, 5}, 6: {2, 5, 6}, 7: {2, 5, 7}} {
		want := behind(c, c.Parts...)
		want.Servers = servers
		wantApply(t, c, come(n), want)
		wantNoApply(t, want, come(n), api.ErrTwice)
	}
	wantNoApply(t, c, come(2), api.ErrTwice)
	wantNoApply(t, c, come(5), api.ErrTwice)
	wantNoApply(t, c, come(-1), api.ErrArg)
	wantNoApply(t, c, come(8), api.ErrArg)
}

// P12.2: kind 4, at and around the edges, from each number of tables; the same again is taken too.
func TestTables(t *testing.T) {
	for from := 1; from <= 8; from++ {
		c := configOf([]int{0, 3, 4}, part(0, 256, 3, 0))
		c.Tables = from
		for n := -3; n <= 12; n++ {
			if n < 1 || n > 8 {
				wantNoApply(t, c, tables(n), api.ErrArg)
				continue
			}
			want := behind(c, c.Parts...)
			want.Tables = n
			wantApply(t, c, tables(n), want)
		}
		for _, n := range []int{math.MinInt, 1<<8 + 1, 1<<16 + 1, 1 << 32, 1<<32 + 1, math.MaxInt} {
			wantNoApply(t, c, tables(n), api.ErrArg)
		}
	}
}

// P12.2: kinds 1 and 4 leave parts as they are, also those that touch and have the same copies.
func TestPartsStay(t *testing.T) {
	c := configOf([]int{0, 1}, part(0, 10, 0, 1), part(10, 20, 0, 1), part(20, 30, 1, 0), part(30, 255, 1, 0), part(255, 256, 1, 0))
	want := behind(c, c.Parts...)
	want.Tables = 8
	wantApply(t, c, tables(8), want)
	want.Tables, want.Servers = 3, []int{0, 1, 6}
	wantApply(t, c, come(6), want)
}
