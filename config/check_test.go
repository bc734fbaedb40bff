package config_test

import (
	"fmt"
	"math"
	"testing"

	"weirkeep/api"
	"weirkeep/config"
)

// P12.1: what a new config is.
func TestNew(t *testing.T) {
	want := config.Config{Epoch: 1, Servers: []int{0, 1}, Parts: []config.Part{part(0, 256, 0, 1)}, Tables: 1}
	first := config.New()
	if !same(first, want) {
		t.Fatal(first)
	}
	wantCheck(t, "New", first, api.OK)
	second := config.New()
	spoil(first)
	if !same(second, want) || !same(config.New(), want) {
		t.Error("what was told once, and spoilt, is told again")
	}
}

// P12.1: the epoch at, and around, its edges.
func TestCheckEpoch(t *testing.T) {
	for epoch, want := range map[int]api.Errno{
		math.MinInt: api.ErrArg, -1 << 40: api.ErrArg, -1: api.ErrArg, 0: api.ErrArg,
		1: api.OK, 2: api.OK, 1 << 32: api.OK, 1<<40 - 1: api.OK, 1 << 40: api.OK,
		1<<40 + 1: api.ErrArg, 1 << 41: api.ErrArg, math.MaxInt: api.ErrArg,
	} {
		c := config.New()
		c.Epoch = epoch
		wantCheck(t, "an epoch", c, want)
	}
}

// P12.1: how many tables there are, at and around the edges.
func TestCheckTables(t *testing.T) {
	for n := -10; n <= 20; n++ {
		c := config.New()
		c.Tables = n
		want := api.ErrArg
		if n >= 1 && n <= 8 {
			want = api.OK
		}
		wantCheck(t, "tables", c, want)
	}
	for _, n := range []int{math.MinInt, -1 << 32, 1<<8 + 1, 1<<16 + 1, 1 << 32, 1<<32 + 1, math.MaxInt} {
		c := config.New()
		c.Tables = n
		wantCheck(t, "tables", c, api.ErrArg)
	}
}

// P12.1: all lists of servers that rise, of all sizes, with parts on the first two and on the last two of them.
func TestCheckServers(t *testing.T) {
	taken := 0
	for bits := range 1 << 8 {
		var servers []int
		for n := range 8 {
			if bits>>n&1 == 1 {
				servers = append(servers, n)
			}
		}
		last := len(servers) - 1
		if last < 1 {
			for _, a := range []int{0, 3, 7} { // of one server, or none, no part has two that are not the same
				wantCheck(t, "too few servers", configOf(servers, part(0, 256, a, 1)), api.ErrArg)
				wantCheck(t, "too few servers", configOf(servers, part(0, 256, a, a)), api.ErrArg)
			}
			wantCheck(t, "too few servers", configOf(servers), api.ErrArg)
			continue
		}
		wantCheck(t, "servers", configOf(servers, part(0, 10, servers[0], servers[1]), part(10, 256, servers[last], servers[last-1])), api.OK)
		taken++
	}
	if taken != 256-9 {
		t.Errorf("%d lists were taken", taken)
	}
}

// wrongServers are configs of which nothing but the list of servers may not be (where there are fewer than two, also the copies).
func wrongServers() []wrong {
	var list []wrong
	for _, servers := range [][]int{
		{1, 0}, {2, 1, 0}, {0, 2, 1}, {1, 0, 2}, {2, 0, 1}, {0, 1, 3, 2}, {0, 1, 7, 6}, {0, 1, 2, 4, 3, 5}, {7, 0, 1},
		{0, 0, 1}, {0, 1, 1}, {0, 1, 2, 2}, {0, 1, 2, 2, 3}, {0, 1, 7, 7}, {0, 1, 0}, {0, 1, 0, 1},
		{0, 1, 2, 3, 4, 5, 6, 7, 7}, {0, 1, 2, 3, 4, 5, 6, 7, 8},
	} {
		list = append(list, wrong{"servers", configOf(servers, part(0, 256, 0, 1))})
	}
	for _, n := range wrongNodes() {
		servers := []int{0, 1, n}
		if n < 0 {
			servers = []int{n, 0, 1}
		}
		list = append(list, wrong{"a server that is no node", configOf(servers, part(0, 256, 0, 1))})
	}
	return append(list,
		wrong{"no server", configOf(nil, part(0, 256, 0, 1))},
		wrong{"no server", configOf([]int{}, part(0, 256, 0, 1))},
		wrong{"one server", configOf([]int{0}, part(0, 256, 0, 1))},
		wrong{"one server", configOf([]int{1}, part(0, 256, 0, 1))},
		wrong{"one server", configOf([]int{0}, part(0, 256, 0, 0))},
		wrong{"one server twice", configOf([]int{1, 1}, part(0, 256, 1, 1))})
}

// wrongParts are configs of which nothing but the ranges of the parts may not be.
func wrongParts() []wrong {
	servers := []int{0, 1, 2}
	var list []wrong
	for what, all := range map[string][][]config.Part{
		"no part":                 {nil, {}},
		"it does not begin at 0":  {{part(1, 256, 0, 1)}, {part(-1, 256, 0, 1)}, {part(-256, 0, 0, 1), part(0, 256, 0, 1)}, {part(10, 256, 0, 1)}, {part(255, 256, 0, 1)}, {part(10, 256, 0, 1), part(0, 10, 0, 1)}, {part(math.MinInt, 256, 0, 1)}},
		"a gap":                   {{part(0, 9, 0, 1), part(10, 256, 0, 1)}, {part(0, 255, 0, 1), part(256, 257, 0, 1)}, {part(0, 10, 0, 1), part(10, 20, 1, 2), part(21, 256, 0, 1)}},
		"an overlap":              {{part(0, 11, 0, 1), part(10, 256, 0, 1)}, {part(0, 256, 0, 1), part(0, 256, 0, 1)}, {part(0, 256, 0, 1), part(10, 256, 0, 2)}, {part(0, 10, 0, 1), part(10, 20, 1, 2), part(19, 256, 0, 1)}},
		"a part of no block":      {{part(0, 0, 0, 1)}, {part(0, 0, 0, 1), part(0, 256, 0, 1)}, {part(0, 10, 0, 1), part(10, 10, 1, 2), part(10, 256, 0, 1)}, {part(0, 256, 0, 1), part(256, 256, 0, 1)}},
		"a To below its From":     {{part(0, -1, 0, 1)}, {part(0, -1, 0, 1), part(-1, 256, 0, 1)}, {part(0, 20, 0, 1), part(20, 10, 0, 1), part(10, 256, 0, 1)}, {part(0, 300, 0, 1), part(300, 256, 0, 1)}, {part(0, math.MinInt, 0, 1), part(math.MinInt, 256, 0, 1)}},
		"it ends below MaxSpan":   {{part(0, 255, 0, 1)}, {part(0, 1, 0, 1)}, {part(0, 10, 0, 1), part(10, 255, 1, 2)}},
		"it ends above MaxSpan":   {{part(0, 257, 0, 1)}, {part(0, 512, 0, 1)}, {part(0, math.MaxInt, 0, 1)}, {part(0, 10, 0, 1), part(10, 257, 1, 2)}, {part(0, 256, 0, 1), part(256, 257, 0, 1)}, {part(0, 1<<32+256, 0, 1)}},
		"it ends above, and back": {{part(0, 257, 0, 1), part(0, 256, 0, 1)}, {part(0, 257, 0, 1), part(256, 256, 0, 1)}},
	} {
		for _, parts := range all {
			list = append(list, wrong{what, configOf(servers, parts...)})
		}
	}
	return list
}

// wrongCopies are configs of which nothing but one part's copies may not be, in the first, a middle, the last and an only part.
func wrongCopies() []wrong {
	servers := []int{1, 3, 4}
	var pairs [][2]int
	for _, n := range append(wrongNodes(), 0, 2, 5, 6, 7) {
		pairs = append(pairs, [2]int{n, 1}, [2]int{1, n}, [2]int{n, 4}, [2]int{4, n}, [2]int{n, n})
	}
	pairs = append(pairs, [2]int{1, 1}, [2]int{3, 3}, [2]int{4, 4})
	var list []wrong
	for _, p := range pairs {
		a, b := p[0], p[1]
		list = append(list,
			wrong{"copies", configOf(servers, part(0, 256, a, b))},
			wrong{"the first one's copies", configOf(servers, part(0, 1, a, b), part(1, 9, 1, 3), part(9, 256, 4, 3))},
			wrong{"a middle one's copies", configOf(servers, part(0, 1, 3, 1), part(1, 9, a, b), part(9, 256, 4, 3))},
			wrong{"the last one's copies", configOf(servers, part(0, 1, 3, 1), part(1, 9, 1, 3), part(9, 256, a, b))})
	}
	return list
}

// wrongs are configs of which one thing may not be.
func wrongs() []wrong {
	list := append(append(wrongServers(), wrongParts()...), wrongCopies()...)
	good := configOf([]int{0, 1, 2}, part(0, 256, 0, 1))
	for _, n := range []int{0, -1, 9, math.MinInt, math.MaxInt} {
		c := good
		c.Tables = n
		list = append(list, wrong{fmt.Sprint(n, " tables"), c})
	}
	for _, n := range []int{0, -1, 1<<40 + 1, math.MinInt, math.MaxInt} {
		c := good
		c.Epoch = n
		list = append(list, wrong{fmt.Sprint("the epoch ", n), c})
	}
	return append(list, wrong{"nothing", config.Config{}})
}

// P12.1: one thing that may not be is enough, whatever it is.
func TestCheckWrong(t *testing.T) {
	for _, w := range wrongs() {
		wantCheck(t, w.what, w.c, api.ErrArg)
	}
}

// P12.1: parts of all kinds that may be: of a block each, with the same copies as the next one, with them the other way round.
func TestCheckParts(t *testing.T) {
	servers := []int{0, 1, 2, 7}
	var ones []config.Part
	for i := range 256 {
		ones = append(ones, part(i, i+1, servers[i%4], servers[(i+1+i/4%3)%4]))
	}
	wantCheck(t, "parts of a block", configOf(servers, ones...), api.OK)
	for _, parts := range [][]config.Part{
		{part(0, 256, 7, 0)},
		{part(0, 1, 0, 1), part(1, 256, 0, 1)},
		{part(0, 255, 0, 1), part(255, 256, 1, 0)},
		{part(0, 10, 0, 1), part(10, 20, 2, 7), part(20, 256, 0, 1)},
	} {
		wantCheck(t, "parts", configOf(servers, parts...), api.OK)
	}
}
