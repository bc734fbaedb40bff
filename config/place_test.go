package config_test

import (
	"math"
	"testing"

	"weirkeep/api"
	"weirkeep/config"
)

// four is a config of the servers 0 to 3 in four parts: 0 to 10, to 20, to 30 and to 256.
func four() config.Config {
	return configOf([]int{0, 1, 2, 3}, part(0, 10, 0, 1), part(10, 20, 1, 2), part(20, 30, 0, 1), part(30, 256, 2, 3))
}

// P12.2: kind 3: ranges that may not be are ErrRange, ahead of each other error; then N and M that are the same, then such as are no servers.
func TestPlaceRefused(t *testing.T) {
	c := four()
	bad := []api.Range{
		span(-1, 1), span(-1, 0), span(-1, 256), span(-2, -1), span(-1, -1), span(-10, 300), span(math.MinInt, 5), span(math.MinInt, math.MaxInt),
		span(0, 257), span(255, 257), span(256, 257), span(257, 258), span(300, 400), span(5, 1<<32+6), span(0, math.MaxInt), span(1<<32, 1<<32+5),
		span(0, 0), span(5, 5), span(10, 10), span(255, 255), span(256, 256), span(257, 257), span(-3, -3), span(math.MaxInt, math.MaxInt),
		span(1, 0), span(20, 10), span(256, 0), span(256, 255), span(0, -1), span(255, math.MinInt), span(math.MaxInt, math.MinInt),
	}
	good := []api.Range{span(0, 256), span(0, 1), span(255, 256), span(10, 20), span(5, 100)}
	pairs := [][3]int{{0, 1, 0}, {3, 2, 0}}
	for n := range 4 {
		pairs = append(pairs, [3]int{n, n, int(api.ErrArg)})
	}
	for _, n := range append(wrongNodes(), 4, 5, 6, 7) {
		pairs = append(pairs, [3]int{n, n, int(api.ErrArg)}, [3]int{n, 0, int(api.ErrNone)}, [3]int{0, n, int(api.ErrNone)}, [3]int{3, n, int(api.ErrNone)}, [3]int{n - 1, n, int(api.ErrNone)})
	}
	for _, p := range pairs {
		for _, r := range bad {
			wantNoApply(t, c, place(r.From, r.To, p[0], p[1]), api.ErrRange)
		}
		for _, r := range good {
			o := place(r.From, r.To, p[0], p[1])
			want, e := saidApply(c, o)
			if int(e) != p[2] {
				t.Fatal(o, e)
			}
			wantAny(t, c, o, want, e)
		}
	}
}

// P12.2: kind 3, by hand: where parts are cut, and which are put together.
func TestPlace(t *testing.T) {
	whole := func(a, b int) []config.Part { return []config.Part{part(0, 256, a, b)} }
	for _, c := range []struct {
		what string
		o    config.Order
		want []config.Part
	}{
		{"all of it", place(0, 256, 3, 1), whole(3, 1)},
		{"all of it, as it was in parts", place(0, 256, 0, 1), whole(0, 1)},
		{"the first block", place(0, 1, 3, 0), []config.Part{part(0, 1, 3, 0), part(1, 10, 0, 1), part(10, 20, 1, 2), part(20, 30, 0, 1), part(30, 256, 2, 3)}},
		{"the last block", place(255, 256, 3, 0), []config.Part{part(0, 10, 0, 1), part(10, 20, 1, 2), part(20, 30, 0, 1), part(30, 255, 2, 3), part(255, 256, 3, 0)}},
		{"all but the first block", place(1, 256, 3, 0), []config.Part{part(0, 1, 0, 1), part(1, 256, 3, 0)}},
		{"all but the last block", place(0, 255, 3, 0), []config.Part{part(0, 255, 3, 0), part(255, 256, 2, 3)}},
		{"within one part", place(12, 15, 3, 0), []config.Part{part(0, 10, 0, 1), part(10, 12, 1, 2), part(12, 15, 3, 0), part(15, 20, 1, 2), part(20, 30, 0, 1), part(30, 256, 2, 3)}},
		{"a block within one part", place(12, 13, 2, 1), []config.Part{part(0, 10, 0, 1), part(10, 12, 1, 2), part(12, 13, 2, 1), part(13, 20, 1, 2), part(20, 30, 0, 1), part(30, 256, 2, 3)}},
		{"a part's beginning", place(10, 15, 3, 0), []config.Part{part(0, 10, 0, 1), part(10, 15, 3, 0), part(15, 20, 1, 2), part(20, 30, 0, 1), part(30, 256, 2, 3)}},
		{"a part's end", place(15, 20, 3, 0), []config.Part{part(0, 10, 0, 1), part(10, 15, 1, 2), part(15, 20, 3, 0), part(20, 30, 0, 1), part(30, 256, 2, 3)}},
		{"just one part", place(10, 20, 3, 0), []config.Part{part(0, 10, 0, 1), part(10, 20, 3, 0), part(20, 30, 0, 1), part(30, 256, 2, 3)}},
		{"just the first part", place(0, 10, 3, 0), []config.Part{part(0, 10, 3, 0), part(10, 20, 1, 2), part(20, 30, 0, 1), part(30, 256, 2, 3)}},
		{"just the last part", place(30, 256, 3, 0), []config.Part{part(0, 10, 0, 1), part(10, 20, 1, 2), part(20, 30, 0, 1), part(30, 256, 3, 0)}},
		{"over one end", place(5, 15, 3, 0), []config.Part{part(0, 5, 0, 1), part(5, 15, 3, 0), part(15, 20, 1, 2), part(20, 30, 0, 1), part(30, 256, 2, 3)}},
		{"over two ends", place(5, 25, 3, 0), []config.Part{part(0, 5, 0, 1), part(5, 25, 3, 0), part(25, 30, 0, 1), part(30, 256, 2, 3)}},
		{"over all ends", place(5, 100, 3, 0), []config.Part{part(0, 5, 0, 1), part(5, 100, 3, 0), part(100, 256, 2, 3)}},
		{"two whole parts", place(10, 30, 3, 0), []config.Part{part(0, 10, 0, 1), part(10, 30, 3, 0), part(30, 256, 2, 3)}},
		{"as the part ahead", place(30, 40, 0, 1), []config.Part{part(0, 10, 0, 1), part(10, 20, 1, 2), part(20, 40, 0, 1), part(40, 256, 2, 3)}},
		{"as the part behind", place(25, 30, 2, 3), []config.Part{part(0, 10, 0, 1), part(10, 20, 1, 2), part(20, 25, 0, 1), part(25, 256, 2, 3)}},
		{"as the parts on both sides", place(10, 20, 0, 1), []config.Part{part(0, 30, 0, 1), part(30, 256, 2, 3)}},
		{"over an end, as the part ahead", place(5, 15, 0, 1), []config.Part{part(0, 15, 0, 1), part(15, 20, 1, 2), part(20, 30, 0, 1), part(30, 256, 2, 3)}},
		{"over an end, as the part behind", place(5, 15, 1, 2), []config.Part{part(0, 5, 0, 1), part(5, 20, 1, 2), part(20, 30, 0, 1), part(30, 256, 2, 3)}},
		{"over two ends, as both sides", place(5, 25, 0, 1), []config.Part{part(0, 30, 0, 1), part(30, 256, 2, 3)}},
		{"over two ends, as the part in the middle", place(5, 25, 1, 2), []config.Part{part(0, 5, 0, 1), part(5, 25, 1, 2), part(25, 30, 0, 1), part(30, 256, 2, 3)}},
		{"as both sides, the other way round", place(10, 20, 1, 0), []config.Part{part(0, 10, 0, 1), part(10, 20, 1, 0), part(20, 30, 0, 1), part(30, 256, 2, 3)}},
		{"as the part ahead, the other way round", place(30, 40, 1, 0), []config.Part{part(0, 10, 0, 1), part(10, 20, 1, 2), part(20, 30, 0, 1), part(30, 40, 1, 0), part(40, 256, 2, 3)}},
		{"as the part behind, the other way round", place(25, 30, 3, 2), []config.Part{part(0, 10, 0, 1), part(10, 20, 1, 2), part(20, 25, 0, 1), part(25, 30, 3, 2), part(30, 256, 2, 3)}},
		{"the same A alone", place(10, 20, 0, 2), []config.Part{part(0, 10, 0, 1), part(10, 20, 0, 2), part(20, 30, 0, 1), part(30, 256, 2, 3)}},
		{"the same B alone", place(10, 20, 3, 1), []config.Part{part(0, 10, 0, 1), part(10, 20, 3, 1), part(20, 30, 0, 1), part(30, 256, 2, 3)}},
		{"the same again, of a part", place(10, 20, 1, 2), four().Parts},
		{"the same again, within a part", place(100, 110, 2, 3), four().Parts},
		{"the same again, at a part's beginning", place(0, 1, 0, 1), four().Parts},
		{"the same again, at a part's end", place(255, 256, 2, 3), four().Parts},
	} {
		d := behind(four(), c.want...)
		t.Log(c.what)
		wantApply(t, four(), c.o, d)
		wantApply(t, d, c.o, behind(d, c.want...)) // only the epoch is another one
	}
}

// P12.2: kind 3: parts that touch and have the same copies are put together, also where R is none of them.
func TestPlaceTogetherElsewhere(t *testing.T) {
	c := configOf([]int{0, 1, 2}, part(0, 5, 0, 1), part(5, 10, 0, 1), part(10, 20, 1, 0), part(20, 100, 1, 2), part(100, 200, 1, 2), part(200, 256, 1, 2))
	wantApply(t, c, place(10, 12, 2, 0), behind(c, part(0, 10, 0, 1), part(10, 12, 2, 0), part(12, 20, 1, 0), part(20, 256, 1, 2)))
	wantApply(t, c, place(12, 14, 1, 0), behind(c, part(0, 10, 0, 1), part(10, 20, 1, 0), part(20, 256, 1, 2)))
	wantApply(t, c, place(7, 8, 0, 1), behind(c, part(0, 10, 0, 1), part(10, 20, 1, 0), part(20, 256, 1, 2)))
	wantApply(t, c, place(7, 150, 0, 1), behind(c, part(0, 150, 0, 1), part(150, 256, 1, 2)))
}

// P12.2: kind 3: all ranges with ends at, and around, those of parts, by all pairs of servers, held against a list of blocks.
func TestPlaceAll(t *testing.T) {
	c := four()
	ends := []int{-1, 0, 1, 5, 9, 10, 11, 19, 20, 21, 29, 30, 31, 128, 254, 255, 256, 257}
	count := map[api.Errno]int{}
	for _, from := range ends {
		for _, to := range ends {
			for a := -1; a <= 4; a++ {
				for b := -1; b <= 4; b++ {
					o := place(from, to, a, b)
					want, e := saidApply(c, o)
					wantAny(t, c, o, want, e)
					count[e]++
				}
			}
		}
	}
	for _, e := range []api.Errno{api.OK, api.ErrRange, api.ErrArg, api.ErrNone} {
		if count[e] < 100 {
			t.Errorf("%d orders are answered %d", count[e], e)
		}
	}
}

// P12.2: kind 3 of parts of a block each: cut, and put together.
func TestPlaceManyParts(t *testing.T) {
	var ones []config.Part
	for i := range 256 {
		ones = append(ones, part(i, i+1, i%2, 2+i%3%2))
	}
	c := configOf([]int{0, 1, 2, 3}, ones...)
	for _, r := range []api.Range{span(0, 1), span(0, 256), span(255, 256), span(100, 101), span(3, 254), span(100, 200)} {
		for _, pair := range [][2]int{{0, 2}, {1, 3}, {2, 0}} {
			o := place(r.From, r.To, pair[0], pair[1])
			want, _ := saidApply(c, o)
			wantApply(t, c, o, want)
		}
	}
	c = config.New()
	for i := 1; i < 256; i += 2 { // each second block the other way round: as many parts as there can be
		next, e := apply(t, c, place(i, i+1, 1, 0))
		if e != api.OK || len(next.Parts) != min(i+2, 256) {
			t.Fatalf("%d parts behind an order for block %d, %d", len(next.Parts), i, e)
		}
		c = next
	}
	wantApply(t, c, place(0, 256, 0, 1), behind(c, part(0, 256, 0, 1)))
}
