package config_test

import (
	"math/rand"
	"slices"
	"testing"

	"weirkeep/api"
	"weirkeep/config"
)

// anyOrder is an order of any kind, near to what is taken; sometimes one that is not.
func anyOrder(random *rand.Rand) config.Order {
	o := config.Order{Kind: 1 + random.Intn(4), N: random.Intn(8), M: random.Intn(8)}
	if random.Intn(2) == 0 { // parts change more often than all else
		o.Kind = 3
	}
	if random.Intn(15) == 0 {
		o.Kind = random.Intn(8) - 1
	}
	if random.Intn(15) == 0 {
		o.N = random.Intn(14) - 3
	}
	from := random.Intn(256)
	o.R = span(from, from+1+random.Intn(40))
	switch random.Intn(12) {
	case 0:
		o.R = span(random.Intn(260)-2, random.Intn(260)-2)
	case 1:
		o.R.From = 0
	case 2:
		o.R.To = 256
	case 3:
		o.R = span(from/16*16, from/16*16+16)
	}
	return o
}

// wantFollows fails, unless what P12.5 says holds of what an order made: a config; each block's copies on two servers; and each that no order touched where it was.
func wantFollows(t *testing.T, before config.Config, o config.Order, after config.Config) {
	t.Helper()
	wantCheck(t, "behind an order", after, api.OK)
	if after.Epoch != before.Epoch+1 {
		t.Fatalf("%v: the epoch is %d behind %d", o, after.Epoch, before.Epoch)
	}
	old := blocksOf(before)
	for block := range 256 {
		a, b, e := config.Where(after, block)
		if e != api.OK || a == b || !slices.Contains(after.Servers, a) || !slices.Contains(after.Servers, b) {
			t.Fatalf("%v: block %d is on %d and %d, %d, of %v", o, block, a, b, e, after.Servers)
		}
		x, y := old[block][0], old[block][1]
		touched := o.Kind == 3 && o.R.From <= block && block < o.R.To
		if touched && (a != o.N || b != o.M) {
			t.Fatalf("%v: block %d is on %d and %d", o, block, a, b)
		}
		if !touched && (a != x && (o.Kind != 2 || x != o.N) || b != y && (o.Kind != 2 || y != o.N)) {
			t.Fatalf("%v: block %d was on %d and %d, and is on %d and %d", o, block, x, y, a, b)
		}
	}
}

// P12.2, P12.3, P12.5: long rows of orders of all kinds, held against a list of blocks.
func TestRows(t *testing.T) {
	random := rand.New(rand.NewSource(1200))
	count := map[[2]int]int{}
	most := 0
	for range 40 {
		c := config.New()
		for range 300 {
			o := anyOrder(random)
			want, e := saidApply(c, o)
			wantAny(t, c, o, want, e)
			count[[2]int{o.Kind, int(e)}]++
			if e != api.OK {
				continue
			}
			got, _ := config.Apply(c, o)
			wantFollows(t, c, o, got)
			most = max(most, len(got.Parts))
			c = got
		}
	}
	for _, seen := range [][2]int{
		{1, 0}, {1, 1}, {1, 4}, {2, 0}, {2, 3}, {2, 110}, {3, 0}, {3, 71}, {3, 1}, {3, 3}, {4, 0}, {4, 1}, {0, 1}, {-1, 1}, {5, 1}, {6, 1},
	} {
		if count[seen] < 5 {
			t.Errorf("kind %d is answered %d only %d times", seen[0], seen[1], count[seen])
		}
	}
	if most < 20 {
		t.Errorf("never more than %d parts", most)
	}
}

// P12.2, P12.5: rows from configs that no order made: of many parts that could be put together.
func TestRowsFromAnywhere(t *testing.T) {
	random := rand.New(rand.NewSource(1201))
	for range 200 {
		servers := random.Perm(8)[:3+random.Intn(6)]
		slices.Sort(servers)
		var parts []config.Part
		for at := 0; at < 256; {
			to := min(at+1+random.Intn(30), 256)
			pair := [][2]int{{0, 1}, {1, 0}, {1, 2}}[random.Intn(3)]
			parts = append(parts, part(at, to, servers[pair[0]], servers[pair[1]]))
			at = to
		}
		c := configOf(servers, parts...)
		wantCheck(t, "made", c, api.OK)
		for range 20 {
			o := anyOrder(random)
			want, e := saidApply(c, o)
			wantAny(t, c, o, want, e)
			if e == api.OK {
				wantFollows(t, c, o, want)
				c = want
			}
		}
	}
}

// R5: what was told once is told again, and earlier configs stay as they were.
func TestEarlierConfigsStay(t *testing.T) {
	random := rand.New(rand.NewSource(1202))
	all := []config.Config{config.New()}
	var kept []config.Config
	for range 600 {
		last := all[len(all)-1]
		if next, e := config.Apply(last, anyOrder(random)); e == api.OK {
			kept = append(kept, clone(last))
			all = append(all, next)
		}
	}
	if len(kept) < 200 {
		t.Fatalf("%d of 600 orders are taken", len(kept))
	}
	for i, c := range kept {
		if !same(all[i], c) {
			t.Fatalf("config %d is %v, was %v", i, all[i], c)
		}
	}
}
