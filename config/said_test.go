package config_test

import (
	"math"
	"slices"
	"testing"

	"weirkeep/api"
	"weirkeep/config"
)

func span(from, to int) api.Range { return api.Range{From: from, To: to} }

func part(from, to, a, b int) config.Part { return config.Part{R: span(from, to), A: a, B: b} }

// configOf is the config of the epoch 7, with 3 tables, that has these.
func configOf(servers []int, parts ...config.Part) config.Config {
	return config.Config{Epoch: 7, Servers: servers, Parts: parts, Tables: 3}
}

// behind is c an epoch later, with these parts.
func behind(c config.Config, parts ...config.Part) config.Config {
	c.Epoch++
	c.Parts = parts
	return c
}

func come(n int) config.Order   { return config.Order{Kind: 1, N: n} }
func leave(n int) config.Order  { return config.Order{Kind: 2, N: n} }
func tables(n int) config.Order { return config.Order{Kind: 4, N: n} }

func place(from, to, a, b int) config.Order {
	return config.Order{Kind: 3, N: a, M: b, R: span(from, to)}
}

// wrongNodes are numbers that no node has, and such as were one if they were cut to fewer bits.
func wrongNodes() []int {
	return []int{-1, -2, -8, 8, 9, 16, 255, 256, 257, 1 << 16, 1 << 32, 1<<32 + 1, math.MinInt32, math.MinInt, math.MaxInt}
}

// same tells whether two configs are alike; a list without elements may be nil.
func same(c, d config.Config) bool {
	return c.Epoch == d.Epoch && c.Tables == d.Tables && slices.Equal(c.Servers, d.Servers) && slices.Equal(c.Parts, d.Parts)
}

func clone(c config.Config) config.Config {
	c.Servers, c.Parts = slices.Clone(c.Servers), slices.Clone(c.Parts)
	return c
}

// spoil overwrites all of c's lists, with their spare room.
func spoil(c config.Config) {
	for i := range c.Servers[:cap(c.Servers)] {
		c.Servers[:cap(c.Servers)][i] = -77
	}
	for i := range c.Parts[:cap(c.Parts)] {
		c.Parts[:cap(c.Parts)][i] = part(-77, -77, -77, -77)
	}
}

// withSpare is c with spare room behind its lists, in which something lies that counts if it is read.
func withSpare(c config.Config) config.Config {
	servers, parts := slices.Clone(c.Servers), slices.Clone(c.Parts)
	c.Servers = append(servers, 6, 7, 3)[:len(servers)]
	c.Parts = append(parts, part(256, 300, 0, 1), part(0, 256, 1, 0), part(5, 6, 7, 8))[:len(parts)]
	return c
}

// whole is c with its lists as long as they have room.
func whole(c config.Config) config.Config {
	c.Servers, c.Parts = c.Servers[:cap(c.Servers)], c.Parts[:cap(c.Parts)]
	return clone(c)
}

// apply is Apply. It fails, if that changed what was handed in, or told anything of which the memory is not its own.
func apply(t *testing.T, c config.Config, o config.Order) (config.Config, api.Errno) {
	t.Helper()
	in := withSpare(c)
	before := whole(in)
	got, e := config.Apply(in, o)
	answer := clone(got)
	if now := whole(in); !same(now, before) {
		t.Fatalf("%v, of %v: what was handed in is %v, was %v", o, c, now, before)
	}
	spoil(got)
	if now := whole(in); !same(now, before) {
		t.Fatalf("%v, of %v: the answer shares memory with what was handed in", o, c)
	}
	return answer, e
}

// wantApply fails, unless the order makes want of c; that is a config.
func wantApply(t *testing.T, c config.Config, o config.Order, want config.Config) {
	t.Helper()
	got, e := apply(t, c, o)
	if !same(got, want) || e != api.OK {
		t.Fatalf("%v, of %v: %v, %d, want %v", o, c, got, e, want)
	}
	wantCheck(t, "made by Apply", got, api.OK)
}

// wantNoApply fails, unless the order is refused by that, and nothing else is told.
func wantNoApply(t *testing.T, c config.Config, o config.Order, want api.Errno) {
	t.Helper()
	got, e := apply(t, c, o)
	if e != want || !same(got, config.Config{}) {
		t.Fatalf("%v, of %v: %v, %d, want %d", o, c, got, e, want)
	}
}

// wantAny is wantApply or wantNoApply, as e says.
func wantAny(t *testing.T, c config.Config, o config.Order, want config.Config, e api.Errno) {
	t.Helper()
	if e == api.OK {
		wantApply(t, c, o, want)
	} else {
		wantNoApply(t, c, o, e)
	}
}

// wantCheck fails, unless Check answers that, and leaves c as it is.
func wantCheck(t *testing.T, what string, c config.Config, want api.Errno) {
	t.Helper()
	in := withSpare(c)
	before := whole(in)
	if e := config.Check(in); e != want {
		t.Fatalf("%s: Check of %v: %d, want %d", what, c, e, want)
	}
	if now := whole(in); !same(now, before) {
		t.Fatalf("%s: Check made %v of %v", what, now, before)
	}
}

func wantWhere(t *testing.T, c config.Config, block, a, b int, e api.Errno) {
	t.Helper()
	in := withSpare(c)
	before := whole(in)
	if gotA, gotB, gotE := config.Where(in, block); gotA != a || gotB != b || gotE != e {
		t.Fatalf("Where(%v, %d): %d, %d, %d, want %d, %d, %d", c, block, gotA, gotB, gotE, a, b, e)
	}
	if now := whole(in); !same(now, before) {
		t.Fatalf("Where made %v of %v", now, before)
	}
}

// wrong is what Check does not take, and why.
type wrong struct {
	what string
	c    config.Config
}
