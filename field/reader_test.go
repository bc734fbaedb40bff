package field_test

import (
	"encoding/binary"
	"math"
	"math/rand"
	"strings"
	"testing"

	"weirkeep/api"
	"weirkeep/field"
)

// behind is a reader of s that stands behind two other bytes, to see that At counts them.
func behind(t *testing.T, s string) *field.Reader {
	t.Helper()
	r := field.NewReader("\x34\x12" + s)
	if n, err := r.Num(2); n != 0x1234 || err != nil || r.At() != 2 {
		t.Fatalf("%d, %v, at %d", n, err, r.At())
	}
	return r
}

// wantNoNum fails, unless a number of so many bytes is refused, at the place 2, and nothing is read.
func wantNoNum(t *testing.T, s string, bytes int, e api.Errno) {
	t.Helper()
	r := behind(t, s)
	n, err := r.Num(bytes)
	wantBare(t, err, e, 2)
	if n != 0 || r.At() != 2 {
		t.Errorf("Num(%d) of %q: %d, at %d", bytes, s, n, r.At())
	}
}

// wantNoText fails, unless a text is refused, at the place 2, and nothing is read.
func wantNoText(t *testing.T, s string, e api.Errno) *field.Fault {
	t.Helper()
	r := behind(t, s)
	text, err := r.Text()
	if text != "" || r.At() != 2 {
		t.Errorf("Text of %q: %q, at %d", s, text, r.At())
	}
	return wantFault(t, err, e, 2)
}

// P1.3: numbers are read, the lowest byte first.
func TestReaderNum(t *testing.T) {
	const s = "\x01\x82\x03\x84\x05\x86\x07\x78\xff"
	for bytes, want := range map[int]int{1: 0x01, 2: 0x8201, 4: 0x84038201, 8: 0x7807860584038201} {
		r := behind(t, s)
		if n, err := r.Num(bytes); n != want || err != nil || r.At() != 2+bytes {
			t.Errorf("Num(%d): %x, %v, at %d", bytes, n, err, r.At())
		}
	}
	for _, bytes := range []int{1, 2, 4} { // the greatest is a number there
		r := behind(t, strings.Repeat("\xff", bytes))
		if n, err := r.Num(bytes); n != 1<<(8*bytes)-1 || err != nil || r.End() != nil {
			t.Errorf("Num(%d): %x, %v", bytes, n, err)
		}
	}
}

// P1.3: of 8 bytes all below 2^63 are numbers, and none from there on.
func TestReaderNumLong(t *testing.T) {
	for _, n := range []uint64{0, 1, 1 << 32, 1 << 62, math.MaxInt64 - 1, math.MaxInt64} {
		r := behind(t, string(binary.LittleEndian.AppendUint64(nil, n)))
		if got, err := r.Num(8); uint64(got) != n || err != nil || r.At() != 10 {
			t.Errorf("%x: %x, %v, at %d", n, got, err, r.At())
		}
	}
	for _, n := range []uint64{1 << 63, 1<<63 + 1, 1<<63 + 1<<62, math.MaxUint64} {
		wantNoNum(t, string(binary.LittleEndian.AppendUint64(nil, n)), 8, api.ErrLong)
	}
}

// P1.3: a width that may not be is named ahead of bytes that are missing.
func TestReaderNumErrors(t *testing.T) {
	for _, bytes := range []int{0, -1, -8, 3, 5, 6, 7, 9, 16, math.MaxInt, math.MinInt} {
		wantNoNum(t, "", bytes, api.ErrArg)
		wantNoNum(t, strings.Repeat("\xff", 20), bytes, api.ErrArg)
	}
	for _, bytes := range []int{1, 2, 4, 8} {
		for length := range bytes {
			wantNoNum(t, strings.Repeat("\xff", length), bytes, api.ErrShort)
		}
	}
	_, err := field.NewReader("").Num(1)
	wantBare(t, err, api.ErrShort, 0)
}

// P1.3: texts are read, of up to MaxText bytes.
func TestReaderText(t *testing.T) {
	for _, want := range []string{"", "a", "\x00\xff", "é", strings.Repeat("x", 256), strings.Repeat("y", api.MaxText)} {
		length := string([]byte{byte(len(want)), byte(len(want) >> 8)})
		for _, rest := range []string{"", "rest"} {
			r := behind(t, length+want+rest)
			if text, err := r.Text(); text != want || err != nil || r.At() != 4+len(want) {
				t.Errorf("a text of %d bytes: %q, %v, at %d", len(want), text, err, r.At())
			}
		}
	}
}

// P1.3: where the length can't be read, Num's fault lies under that of Text, of the same number and place.
func TestReaderTextWithoutLength(t *testing.T) {
	for _, s := range []string{"", "\x00", "\xff"} {
		wantBare(t, wantNoText(t, s, api.ErrShort).Under, api.ErrShort, 2)
	}
}

// P1.3: a length above MaxText is named ahead of bytes that are missing.
func TestReaderTextErrors(t *testing.T) {
	for _, s := range []string{"\x01\x04", "\xff\xff", "\x01\x04" + strings.Repeat("x", api.MaxText+1)} {
		wantBare(t, wantNoText(t, s, api.ErrLong), api.ErrLong, 2)
	}
	for _, s := range []string{"\x01\x00", "\x03\x00ab", "\x00\x01", "\x00\x04", "\x00\x04" + strings.Repeat("x", api.MaxText-1)} {
		wantBare(t, wantNoText(t, s, api.ErrShort), api.ErrShort, 2)
	}
}

// P1.3: End is an error till all is read; it reads nothing.
func TestReaderEnd(t *testing.T) {
	if r := field.NewReader(""); r.End() != nil || r.At() != 0 {
		t.Error("nothing is at its end")
	}
	r := field.NewReader("ab")
	for at := range 2 {
		wantBare(t, r.End(), api.ErrLong, at)
		if r.At() != at {
			t.Errorf("at %d, want %d", r.At(), at)
		}
		if _, err := r.Num(1); err != nil {
			t.Error(err)
		}
	}
	if r.End() != nil || r.At() != 2 {
		t.Errorf("%v, at %d", r.End(), r.At())
	}
}

// P1.3: reading goes on behind an error, from where it was.
func TestReaderGoesOn(t *testing.T) {
	r := behind(t, "\x05\x00abc")
	_, err := r.Text()
	wantBare(t, err, api.ErrShort, 2)
	_, err = r.Num(8)
	wantBare(t, err, api.ErrShort, 2)
	if n, err := r.Num(1); n != 5 || err != nil {
		t.Errorf("%d, %v", n, err)
	}
	if n, err := r.Num(4); n != 0x63626100 || err != nil || r.End() != nil {
		t.Errorf("%x, %v, %v", n, err, r.End())
	}
}

// P1.4: what is written is read back, and of what is cut off something is missed.
func TestReadBack(t *testing.T) {
	random := rand.New(rand.NewSource(1))
	for range 300 {
		w := field.NewWriter()
		var reads []func(r *field.Reader) (same bool, err error)
		for range random.Intn(8) {
			reads = append(reads, writeOne(t, w, random))
		}
		s := w.Bytes()
		if missed := readAll(s, reads); missed != "" {
			t.Fatalf("%q: %s", s, missed)
		}
		if s == "" {
			continue
		}
		if cut := random.Intn(len(s)); readAll(s[:cut], reads) == "" {
			t.Fatalf("%q, cut off at %d, is read back", s, cut)
		}
		if readAll(s+"\x00", reads) == "" {
			t.Fatalf("%q is read back with a byte more", s)
		}
	}
}

// writeOne writes a field, and tells how to read it.
func writeOne(t *testing.T, w *field.Writer, random *rand.Rand) func(*field.Reader) (bool, error) {
	if random.Intn(2) == 0 {
		text := make([]byte, random.Intn(40))
		random.Read(text)
		if err := w.Text(string(text)); err != nil {
			t.Fatal(err)
		}
		return func(r *field.Reader) (bool, error) {
			got, err := r.Text()
			return got == string(text), err
		}
	}
	bytes := 1 << random.Intn(4)
	n := int(random.Uint64() >> (64 - 8*bytes) & math.MaxInt)
	if err := w.Num(n, bytes); err != nil {
		t.Fatal(err)
	}
	return func(r *field.Reader) (bool, error) {
		got, err := r.Num(bytes)
		return got == n, err
	}
}

// readAll tells what is missed, if not all is read back.
func readAll(s string, reads []func(*field.Reader) (bool, error)) string {
	r := field.NewReader(s)
	for _, read := range reads {
		if same, err := read(r); err != nil || !same {
			return "a field is another one"
		}
	}
	if r.End() != nil || r.At() != len(s) {
		return "it does not end there"
	}
	return ""
}
