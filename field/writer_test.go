package field_test

import (
	"encoding/binary"
	"math"
	"strings"
	"testing"

	"weirkeep/api"
	"weirkeep/field"
)

// filled is a writer that has written some bytes, to see that At counts them and that they stay.
func filled(t *testing.T) (*field.Writer, string) {
	t.Helper()
	w := field.NewWriter()
	if w.Bytes() != "" {
		t.Fatalf("a new writer has written %q", w.Bytes())
	}
	if err := w.Text("abc"); err != nil {
		t.Fatal(err)
	}
	return w, "\x03\x00abc"
}

// P1.2: numbers that fit are written, the lowest byte first.
func TestWriterNum(t *testing.T) {
	for _, bytes := range []int{1, 2, 4, 8} {
		greatest := math.MaxInt
		if bytes < 8 {
			greatest = 1<<(8*bytes) - 1
		}
		for _, n := range []int{0, 1, 2, 127, 128, 255, 256, 258, 0x0102, 0x01020304, 0x0102030405060708, greatest / 2, greatest - 1, greatest} {
			if n > greatest {
				continue
			}
			w, want := filled(t)
			want += string(binary.LittleEndian.AppendUint64(nil, uint64(n))[:bytes])
			if err := w.Num(n, bytes); err != nil || w.Bytes() != want {
				t.Errorf("Num(%d, %d): %v, %q, want %q", n, bytes, err, w.Bytes(), want)
			}
		}
	}
}

// P1.2: numbers and widths that may not be are refused, and nothing is written.
func TestWriterNumErrors(t *testing.T) {
	for _, c := range []struct{ n, bytes int }{
		{1 << 8, 1}, {1 << 16, 2}, {1 << 32, 4}, {1<<32 + 1, 4}, {math.MaxInt, 1}, {math.MaxInt, 2}, {math.MaxInt, 4},
		{-1, 1}, {-1, 2}, {-1, 4}, {-1, 8}, {math.MinInt, 8}, {math.MinInt, 1},
		{0, 0}, {0, -1}, {0, 3}, {0, 5}, {0, 6}, {0, 7}, {0, 9}, {0, 16}, {0, -8}, {0, math.MaxInt}, {0, math.MinInt}, {-1, 3},
	} {
		w, want := filled(t)
		wantBare(t, w.Num(c.n, c.bytes), api.ErrArg, len(want))
		if w.Bytes() != want {
			t.Errorf("Num(%d, %d) wrote %q", c.n, c.bytes, w.Bytes())
		}
		wantBare(t, field.NewWriter().Num(c.n, c.bytes), api.ErrArg, 0)
	}
}

// P1.2: a text stands behind its length, of up to MaxText bytes (not runes).
func TestWriterText(t *testing.T) {
	for s, length := range map[string]string{
		"":                               "\x00\x00",
		"a":                              "\x01\x00",
		"\x00\xff":                       "\x02\x00",
		"é":                              "\x02\x00",
		strings.Repeat("x", 255):         "\xff\x00",
		strings.Repeat("x", 256):         "\x00\x01",
		strings.Repeat("y", api.MaxText): "\x00\x04",
	} {
		w, want := filled(t)
		want += length + s
		if err := w.Text(s); err != nil || w.Bytes() != want {
			t.Errorf("Text of %d bytes: %v, %q", len(s), err, w.Bytes())
		}
	}
	for _, s := range []string{strings.Repeat("x", api.MaxText+1), strings.Repeat("é", api.MaxText/2+1), strings.Repeat("x", 1<<16), strings.Repeat("x", 1<<16+3)} {
		w, want := filled(t)
		wantBare(t, w.Text(s), api.ErrLong, len(want))
		if w.Bytes() != want {
			t.Errorf("a text of %d bytes was written", len(s))
		}
	}
}

// P1.2: writing goes on behind an error; what Bytes told stays as it was.
func TestWriterGoesOn(t *testing.T) {
	w, want := filled(t)
	before := w.Bytes()
	wantBare(t, w.Num(256, 1), api.ErrArg, len(want))
	if err := w.Num(258, 2); err != nil || w.Bytes() != want+"\x02\x01" || before != want {
		t.Errorf("%v, %q, %q", err, w.Bytes(), before)
	}
	wantBare(t, w.Num(0, 3), api.ErrArg, len(want)+2)
	if again := w.Bytes(); again != want+"\x02\x01" {
		t.Errorf("told again: %q", again)
	}
}
