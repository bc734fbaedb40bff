package shelf_test

import (
	"math"
	"strings"
	"testing"

	"weirkeep/api"
	"weirkeep/shelf"
)

func wantRecord(t *testing.T, b api.Block, mark int, want string) {
	t.Helper()
	if got, e := shelf.Record(b, mark); got != want || e != api.OK {
		t.Errorf("Record(%s, %d): %q, %d, want %q", told(b), mark, got, e, want)
	}
}

// wantNoRecord fails, unless there is that error, and no text.
func wantNoRecord(t *testing.T, b api.Block, mark int, want api.Errno) {
	t.Helper()
	if got, e := shelf.Record(b, mark); got != "" || e != want {
		t.Errorf("Record(%s, %d): %q, %d, want no text, %d", told(b), mark, got, e, want)
	}
}

// Numbers that may not be: just outside, far outside, and such as were allowed if they were cut to fewer bits.
func wrongIDs() []int { return append(noIDs(), -255, 255-1<<32, math.MinInt32) }
func wrongVers() []int {
	return []int{0, -1, -2, -1 << 40, math.MinInt, 1<<40 + 1, 1<<40 + 2, 1 << 41, 1<<41 + 1, 1 << 62, math.MaxInt}
}
func wrongMarks() []int {
	return []int{-1, -2, 2, 3, 48, 49, 128, 255, 256, 257, 1 << 32, 1<<32 + 1, math.MinInt, math.MaxInt}
}

// P9.1: each byte of a record, by hand.
func TestRecordByHand(t *testing.T) {
	for _, c := range []struct {
		b    api.Block
		mark int
		want string
	}{
		{block(3, 258, "ab"), 1, "\x01\x03\x02\x01\x00\x00\x00\x00\x00\x00\x02\x00ab\x00\x00\x00\x00\x00\x00\x00\x00\x00\x00\x00\x00\x00\x00\xf6\x27\x6a\x61"},
		{block(3, 258, "ab"), 0, "\x00\x03\x02\x01\x00\x00\x00\x00\x00\x00\x02\x00ab\x00\x00\x00\x00\x00\x00\x00\x00\x00\x00\x00\x00\x00\x00\xf6\x27\x6a\x61"},
		{block(255, 1<<40, "0123456789abcdef"), 1, "\x01\xff\x00\x00\x00\x00\x00\x01\x00\x00\x10\x000123456789abcdef\xde\xa0\x23\xe1"},
		{block(0, 1, ""), 0, "\x00\x00\x01\x00\x00\x00\x00\x00\x00\x00\x00\x00" + strings.Repeat("\x00", 16) + "\x24\xf4\x67\xfd"},
	} {
		wantRecord(t, c.b, c.mark, c.want)
		if len(c.want) != api.Sector {
			t.Errorf("%v: %d bytes", c.b, len(c.want))
		}
	}
}

// P9.1: blocks at and around the edges, with both marks; the mark has no part in the sum.
func TestRecord(t *testing.T) {
	for _, b := range good() {
		for mark := range 2 {
			wantRecord(t, b, mark, saidRecord(b, mark))
		}
	}
	for id := range 256 {
		wantRecord(t, block(id, 7, "x"), 1, on(block(id, 7, "x")))
	}
	for length := range 17 {
		b := block(9, 7, "0123456789abcdef"[:length])
		wantRecord(t, b, 0, off(b))
	}
}

// P9.1: ErrArg of each number, whatever the others are, and also where Data is too long.
func TestRecordArg(t *testing.T) {
	for _, data := range []string{"", "a", strings.Repeat("x", 16), strings.Repeat("x", 17), strings.Repeat("x", 3000)} {
		for _, mark := range []int{0, 1} {
			for _, id := range wrongIDs() {
				wantNoRecord(t, block(id, 1, data), mark, api.ErrArg)
				wantNoRecord(t, block(id, 0, data), mark, api.ErrArg)
			}
			for _, ver := range wrongVers() {
				wantNoRecord(t, block(0, ver, data), mark, api.ErrArg)
				wantNoRecord(t, block(255, ver, data), mark, api.ErrArg)
			}
		}
		for _, mark := range wrongMarks() {
			wantNoRecord(t, block(0, 1, data), mark, api.ErrArg)
			wantNoRecord(t, block(255, 1<<40, data), mark, api.ErrArg)
			wantNoRecord(t, block(256, 0, data), mark, api.ErrArg)
		}
	}
}

// P9.1: ErrLong from MaxData and one more bytes on.
func TestRecordLong(t *testing.T) {
	for _, length := range []int{17, 18, 31, 32, 33, 255, 256, 257, 272, 1024, 65536, 65537} {
		for mark := range 2 {
			wantNoRecord(t, block(0, 1, strings.Repeat("\x00", length)), mark, api.ErrLong)
			wantNoRecord(t, block(255, 1<<40, strings.Repeat("x", length)), mark, api.ErrLong)
		}
	}
}
