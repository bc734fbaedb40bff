package shelf_test

import (
	"math"
	"math/rand"
	"slices"
	"strings"
	"testing"

	"weirkeep/api"
	"weirkeep/shelf"
)

func wantParse(t *testing.T, s string, want api.Block) {
	t.Helper()
	if got, ok := shelf.Parse(s); got != want || !ok {
		t.Errorf("Parse(%q): %v, %t, want %v", s, got, ok, want)
	}
}

// wantNoParse fails, unless s is no record, and no block is told.
func wantNoParse(t *testing.T, what, s string) {
	t.Helper()
	if got, ok := shelf.Parse(s); got != (api.Block{}) || ok {
		t.Errorf("%s: Parse(%.60q): %v, %t", what, s, got, ok)
	}
}

// P9.1: the block is told whose record with mark 1 it is; with mark 0, or another one, there is none.
func TestParse(t *testing.T) {
	for _, b := range good() {
		wantParse(t, on(b), b)
		wantNoParse(t, "mark 0", off(b))
		for _, mark := range []byte{2, 3, 49, 128, 129, 255} {
			wantNoParse(t, "another mark", sealed(mark, on(b)[1:28]))
		}
	}
}

// P9.4: a record of which one byte, anywhere, is any other one.
func TestParseOther(t *testing.T) {
	for _, b := range []api.Block{block(0, 1, ""), block(3, 258, "ab"), block(255, 1<<40, strings.Repeat("\xff", 16)), block(7, 9, strings.Repeat("\x00", 16))} {
		for i := range 32 {
			for bits := 1; bits < 256; bits++ {
				wantNoParse(t, "another byte", other(on(b), i, byte(bits)))
				if i > 0 {
					wantNoParse(t, "another byte, mark 0", other(off(b), i, byte(bits)))
				}
			}
		}
	}
}

// P9.1: a byte less, and one more, anywhere; the empty text, and others that are too short or too long.
func TestParseLength(t *testing.T) {
	for _, b := range []api.Block{block(0, 1, ""), block(3, 258, "ab"), block(255, 1<<40, "0123456789abcdef")} {
		s := on(b)
		for i := range 33 {
			if i < 32 {
				wantNoParse(t, "a byte less", s[:i]+s[i+1:])
				wantNoParse(t, "cut off", s[:i])
				wantNoParse(t, "its end", s[i+1:])
			}
			for more := range 256 {
				wantNoParse(t, "a byte more", s[:i]+string([]byte{byte(more)})+s[i:])
			}
		}
		wantNoParse(t, "twice", s+s)
		wantNoParse(t, "without its mark", s[1:])
		wantNoParse(t, "a mark more", "\x01"+s)
	}
	for n := range 70 {
		wantNoParse(t, "bytes 0", strings.Repeat("\x00", n))
		wantNoParse(t, "bytes 1", strings.Repeat("\x01", n))
		wantNoParse(t, "bytes 255", strings.Repeat("\xff", n))
		wantNoParse(t, "mark 1 and bytes 0", "\x01"+strings.Repeat("\x00", n))
	}
	wantNoParse(t, "long", strings.Repeat("x", 5000))
}

// P9.1: bytes whose sum is right, and which are no block's record.
func TestParseSealed(t *testing.T) {
	empty := strings.Repeat("\x00", 16)
	wantParse(t, sealed(1, saidBody(5, 6, 2, "ab"+empty[2:])), block(5, 6, "ab"))
	for _, ver := range []uint64{0, 1<<40 + 1, 1 << 41, 1<<56 + 1, 1 << 63, 1<<63 + 1, math.MaxUint64} {
		wantNoParse(t, "a version that may not be", sealed(1, saidBody(5, ver, 2, "ab"+empty[2:])))
	}
	for _, length := range []uint16{17, 18, 32, 255, 256, 257, 258, 272, 1 << 15, math.MaxUint16} {
		wantNoParse(t, "a length that may not be", sealed(1, saidBody(5, 6, length, empty)))
	}
	for length := range 16 {
		for at := length; at < 16; at++ {
			wantNoParse(t, "a byte behind Data", sealed(1, saidBody(5, 6, uint16(length), other(empty, at, 1))))
		}
	}
	for n := range 40 {
		if n != 16 {
			wantNoParse(t, "room for more or less Data", sealed(1, saidBody(5, 6, 0, strings.Repeat("\x00", n))))
		}
	}
	for n := range 11 {
		wantNoParse(t, "a part of the numbers", sealed(1, saidBody(5, 6, 0, "")[:n]))
	}
	s := on(block(5, 6, "ab"))
	turned := []byte(s[28:])
	slices.Reverse(turned)
	wantNoParse(t, "the sum's highest byte first", s[:28]+string(turned))
	wantNoParse(t, "the mark in the sum", s[:28]+sealed(0, s[:28])[29:])
	wantNoParse(t, "another one's sum", s[:28]+on(block(5, 7, "ab"))[28:])
	wantNoParse(t, "the highest byte first", sealed(1, "\x05\x00\x00\x00\x00\x00\x00\x00\x06\x00\x02ab"+empty[2:]))
}

// P9.1: whatever it is, Parse tells what the document's words come to, and Record makes it again.
func TestParseWhatever(t *testing.T) {
	random := rand.New(rand.NewSource(9))
	all := good()
	told := 0
	for range 50000 {
		body := []byte(on(all[random.Intn(len(all))])[1:28])
		for range random.Intn(3) {
			body[random.Intn(27)] = byte(random.Intn(256) >> random.Intn(9))
		}
		s := sealed(1, string(body))
		if random.Intn(10) == 0 {
			s = other(s, random.Intn(32), byte(random.Intn(256)))
		}
		got, ok := shelf.Parse(s)
		if want, is := saidParse(s); got != want || ok != is {
			t.Fatalf("Parse(%q): %v, %t, want %v, %t", s, got, ok, want, is)
		}
		if ok {
			told++
			wantRecord(t, got, 1, s)
		}
	}
	if told < 5000 || told > 45000 {
		t.Errorf("%d of 50000 are records: they are too much alike", told)
	}
}
