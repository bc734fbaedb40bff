package config_test

import (
	"math/rand"
	"slices"
	"strings"
	"testing"

	"weirkeep/api"
	"weirkeep/config"
)

// wantReplay fails, unless the log makes that config; the log stays as it is.
func wantReplay(t *testing.T, log []string, want config.Config) {
	t.Helper()
	before := slices.Clone(log)
	got := config.Replay(log)
	if !same(got, want) {
		t.Fatalf("Replay(%.200q): %v, want %v", log, got, want)
	}
	wantCheck(t, "replayed", got, api.OK)
	spoil(got)
	if again := config.Replay(log); !same(again, want) || !slices.Equal(log, before) {
		t.Fatalf("Replay(%.200q) again: %v, want %v", before, again, want)
	}
}

// logOf is a log of these orders.
func logOf(orders ...config.Order) []string {
	var log []string
	for _, o := range orders {
		log = append(log, said(o))
	}
	return log
}

// P12.4: of no entry New; so of entries that are no orders, of such as Apply refuses, and of both.
func TestReplayNothing(t *testing.T) {
	wantReplay(t, nil, config.New())
	wantReplay(t, []string{}, config.New())
	one := said(come(3))
	none := []string{"", "x", one[:8], one + "\x00", one[1:], strings.Repeat("x", 5000)}
	refused := logOf(come(0), come(1), come(8), leave(0), leave(1), leave(2), place(0, 10, 0, 0), place(5, 5, 0, 1), place(0, 257, 0, 1), place(0, 10, 0, 2), tables(0), tables(9), config.Order{}, config.Order{Kind: 5, N: 2}, config.Order{Kind: 255})
	wantReplay(t, none, config.New())
	wantReplay(t, refused, config.New())
	wantReplay(t, append(append(slices.Clone(none), refused...), none...), config.New())
}

// P12.4: orders one behind the other: one that was refused at first may be taken later, and the other way round.
func TestReplay(t *testing.T) {
	orders := []config.Order{place(10, 20, 2, 0), come(2), place(10, 20, 2, 0), come(2), leave(0), leave(2), tables(4), place(0, 10, 2, 1), leave(0)}
	wantReplay(t, logOf(orders[1], orders[2]), config.Config{Epoch: 3, Servers: []int{0, 1, 2}, Tables: 1, Parts: []config.Part{part(0, 10, 0, 1), part(10, 20, 2, 0), part(20, 256, 0, 1)}})
	for i, want := range []config.Config{
		config.New(),
		config.New(), // 2 is no server yet
		{Epoch: 2, Servers: []int{0, 1, 2}, Tables: 1, Parts: []config.Part{part(0, 256, 0, 1)}},
		{Epoch: 3, Servers: []int{0, 1, 2}, Tables: 1, Parts: []config.Part{part(0, 10, 0, 1), part(10, 20, 2, 0), part(20, 256, 0, 1)}},
		{Epoch: 3, Servers: []int{0, 1, 2}, Tables: 1, Parts: []config.Part{part(0, 10, 0, 1), part(10, 20, 2, 0), part(20, 256, 0, 1)}}, // twice
		{Epoch: 4, Servers: []int{1, 2}, Tables: 1, Parts: []config.Part{part(0, 256, 2, 1)}},
		{Epoch: 4, Servers: []int{1, 2}, Tables: 1, Parts: []config.Part{part(0, 256, 2, 1)}}, // one of two
		{Epoch: 5, Servers: []int{1, 2}, Tables: 4, Parts: []config.Part{part(0, 256, 2, 1)}},
		{Epoch: 6, Servers: []int{1, 2}, Tables: 4, Parts: []config.Part{part(0, 256, 2, 1)}}, // the same again
		{Epoch: 6, Servers: []int{1, 2}, Tables: 4, Parts: []config.Part{part(0, 256, 2, 1)}}, // 0 went
	} {
		wantReplay(t, logOf(orders[:i]...), want)
		mixed := []string{"no order"}
		for _, s := range logOf(orders[:i]...) {
			mixed = append(mixed, s, s[:8], said(config.Order{Kind: 9, N: 2}), s+"x", "")
		}
		wantReplay(t, mixed, want)
	}
}

// P12.4: long logs of all kinds of entries, held against Apply of each order, one behind the other.
func TestReplayLong(t *testing.T) {
	random := rand.New(rand.NewSource(120))
	for range 20 {
		var log []string
		want := config.New()
		taken := 0
		for range 500 {
			o := anyOrder(random)
			s := said(o)
			if random.Intn(4) == 0 {
				log = append(log, s[:random.Intn(9)], s+"\x00")
			}
			if next, e := saidApply(want, written(o)); e == api.OK {
				want = next
				taken++
			}
			log = append(log, s)
		}
		wantReplay(t, log, want)
		if taken < 100 || taken > 450 {
			t.Errorf("%d of 500 orders are taken: they are too much alike", taken)
		}
	}
}

// written is o as its bytes say it, with what has no room cut off.
func written(o config.Order) config.Order {
	return config.Order{Kind: o.Kind & 0xff, N: o.N & 0xffff, M: o.M & 0xffff, R: span(o.R.From&0xffff, o.R.To&0xffff)}
}
