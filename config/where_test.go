package config_test

import (
	"math"
	"testing"

	"weirkeep/api"
	"weirkeep/config"
)

// noBlocks are numbers that no block has, and such as were one if they were cut to fewer bits.
func noBlocks() []int {
	return []int{-1, -2, -256, 256, 257, 511, 1 << 16, 1 << 32, 1<<32 + 5, math.MinInt32, math.MinInt, math.MaxInt}
}

// P12.3: on each side of each part's ends, and around those of the disk.
func TestWhere(t *testing.T) {
	c := configOf([]int{0, 1, 2, 3}, part(0, 1, 2, 1), part(1, 10, 0, 1), part(10, 20, 1, 2), part(20, 255, 0, 3), part(255, 256, 3, 2))
	for block, want := range map[int][2]int{
		0: {2, 1}, 1: {0, 1}, 2: {0, 1}, 9: {0, 1}, 10: {1, 2}, 11: {1, 2}, 19: {1, 2}, 20: {0, 3}, 21: {0, 3}, 128: {0, 3}, 254: {0, 3}, 255: {3, 2},
	} {
		wantWhere(t, c, block, want[0], want[1], api.OK)
	}
	for _, block := range noBlocks() {
		wantWhere(t, c, block, 0, 0, api.ErrRange)
		wantWhere(t, config.New(), block, 0, 0, api.ErrRange)
	}
}

// P12.3: each block of several configs, also of one with a part for each, and of parts that could be put together.
func TestWhereAll(t *testing.T) {
	var ones []config.Part
	for i := range 256 {
		ones = append(ones, part(i, i+1, i%3, 3+i%4))
	}
	for _, c := range []config.Config{
		config.New(), four(), configOf([]int{0, 1, 2, 3, 4, 5, 6}, ones...),
		configOf([]int{6, 7}, part(0, 10, 7, 6), part(10, 11, 7, 6), part(11, 256, 6, 7)),
	} {
		for block, copies := range blocksOf(c) {
			wantWhere(t, c, block, copies[0], copies[1], api.OK)
		}
	}
}

// P12.3, R1: of what is no config nothing is said but that there is an answer: Check's error, as Apply has it.
func TestWhereOfNoConfig(t *testing.T) {
	for _, w := range wrongs() {
		for _, block := range append(noBlocks(), 0, 1, 10, 255) {
			wantWhere(t, w.c, block, 0, 0, api.ErrArg)
		}
	}
}

// P12.3: blocks below 0, 0, 1 and above, also above the last one, modulo tables of all numbers; also of what is no config.
func TestTable(t *testing.T) {
	for _, tables := range []int{math.MinInt, -8, -1, 0, 1, 2, 3, 7, 8, 9, 100, math.MaxInt} {
		for _, block := range []int{math.MinInt, -9, -8, -7, -1, 0, 1, 2, 3, 6, 7, 8, 9, 10, 15, 16, 17, 99, 100, 255, 256, 257, 1 << 40, math.MaxInt} {
			c, d := config.New(), config.Config{Tables: tables}
			c.Tables = tables
			want := 0
			if tables > 0 && block > 0 {
				want = block - block/tables*tables
			}
			for _, x := range []config.Config{c, d} {
				if got := config.Table(x, block); got != want {
					t.Errorf("block %d in %d tables: %d, want %d", block, tables, got, want)
				}
			}
		}
	}
	c := config.New()
	for tables, want := range map[int][]int{1: {0, 0, 0, 0, 0, 0, 0, 0, 0, 0}, 3: {0, 1, 2, 0, 1, 2, 0, 1, 2, 0}, 8: {0, 1, 2, 3, 4, 5, 6, 7, 0, 1}} {
		c.Tables = tables
		for block, w := range want {
			if got := config.Table(c, block); got != w {
				t.Errorf("block %d in %d tables: %d, want %d", block, tables, got, w)
			}
		}
	}
}
