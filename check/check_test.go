package check_test

import (
	"hash/crc32"
	"math/rand"
	"strings"
	"testing"

	"weirkeep/check"
)

// saidSum is Sum bit by bit, as the document says it.
func saidSum(s string) uint32 {
	sum := uint32(0xFFFFFFFF)
	for _, b := range []byte(s) {
		sum ^= uint32(b)
		for range 8 {
			out := sum & 1
			sum >>= 1
			if out == 1 {
				sum ^= 0xEDB88320
			}
		}
	}
	return ^sum
}

// saidSeal is Seal, as the document says it.
func saidSeal(s string) string {
	sum := saidSum(s)
	return s + string([]byte{byte(sum), byte(sum >> 8), byte(sum >> 16), byte(sum >> 24)})
}

// saidOpen is Open, as the document says it.
func saidOpen(s string) (string, bool) {
	if len(s) < 4 || saidSeal(s[:len(s)-4]) != s {
		return "", false
	}
	return s[:len(s)-4], true
}

// noise is a text of n bytes, the same one each time.
func noise(n int) string {
	b := make([]byte, n)
	rand.New(rand.NewSource(int64(n) + 1)).Read(b)
	return string(b)
}

// allBytes is each byte value once.
func allBytes() string {
	b := make([]byte, 256)
	for i := range b {
		b[i] = byte(i)
	}
	return string(b)
}

// texts are of many lengths, of all byte values, and such as are cut wrongly where bytes are taken for runes.
func texts() []string {
	all := []string{"", "123456789", allBytes(), "über", "\xff\xfe\xc3", "\u65e5\u672c", "a\x00", "\x00a"}
	for n := range 70 {
		all = append(all, noise(n), strings.Repeat("\x00", n), strings.Repeat("\xff", n), strings.Repeat("a", n))
	}
	for _, n := range []int{127, 128, 255, 256, 257, 1023, 1024, 1025, 4096} {
		all = append(all, noise(n), strings.Repeat("\x00", n), strings.Repeat("\xff", n))
	}
	for b := range 256 {
		all = append(all, string([]byte{byte(b)}))
	}
	return all
}

// P2.1: sums that are known.
func TestSumKnown(t *testing.T) {
	for s, want := range map[string]uint32{
		"":                 0,
		"123456789":        0xCBF43926,
		"a":                0xE8B7BE43,
		"\x00":             0xD202EF8D,
		"\xff":             0xFF000000,
		"\x00\x00\x00\x00": 0x2144DF1C,
		"\xff\xff\xff\xff": 0xFFFFFFFF,
		allBytes():         0x29058C73,
	} {
		if got := check.Sum(s); got != want {
			t.Errorf("%q: %08X, want %08X", s, got, want)
		}
	}
}

// P2.1: the sum is what the document's steps come to, and what the library's comes to.
func TestSum(t *testing.T) {
	for _, s := range texts() {
		got := check.Sum(s)
		if want := saidSum(s); got != want {
			t.Errorf("%.40q, %d bytes: %08X, want %08X", s, len(s), got, want)
		}
		if want := crc32.ChecksumIEEE([]byte(s)); got != want {
			t.Errorf("%.40q, %d bytes: %08X, the library's is %08X", s, len(s), got, want)
		}
	}
}

// P2.1: each byte value counts, behind each other one.
func TestSumOfTwo(t *testing.T) {
	for i := range 1 << 16 {
		s := string([]byte{byte(i), byte(i >> 8)})
		if got, want := check.Sum(s), saidSum(s); got != want {
			t.Fatalf("%q: %08X, want %08X", s, got, want)
		}
	}
}

// R5: a sum hangs on its text alone, not on the calls ahead of it.
func TestSumAgain(t *testing.T) {
	for _, s := range texts() {
		first := check.Sum(s)
		check.Sum("between")
		check.Seal("between")
		check.Open("between")
		if again := check.Sum(s); again != first {
			t.Errorf("%.40q: %08X, and then %08X", s, first, again)
		}
	}
}

// P2.2: the sum stands behind the text, the lowest byte first.
func TestSeal(t *testing.T) {
	for s, want := range map[string]string{
		"":          "\x00\x00\x00\x00",
		"123456789": "123456789\x26\x39\xF4\xCB",
		"a":         "a\x43\xBE\xB7\xE8",
		"\xff":      "\xff\x00\x00\x00\xff",
	} {
		if got := check.Seal(s); got != want {
			t.Errorf("%q: %q, want %q", s, got, want)
		}
	}
	for _, s := range texts() {
		if got, want := check.Seal(s), saidSeal(s); got != want {
			t.Errorf("%.40q, %d bytes: %q, want %q", s, len(s), got, want)
		}
	}
}

// P2.2, P2.3: what is sealed is opened, however often it is sealed.
func TestOpenSealed(t *testing.T) {
	for _, s := range texts() {
		once := check.Seal(s)
		if got, ok := check.Open(once); got != s || !ok {
			t.Errorf("%.40q, %d bytes: %.40q, %v", s, len(s), got, ok)
		}
		if got, ok := check.Open(check.Seal(once)); got != once || !ok {
			t.Errorf("%.40q, %d bytes, sealed twice: %.40q, %v", s, len(s), got, ok)
		}
	}
}

// wantShut fails, unless s is not opened, and nothing of it is told.
func wantShut(t *testing.T, s string) {
	t.Helper()
	if got, ok := check.Open(s); got != "" || ok {
		t.Errorf("%.40q, %d bytes: %.40q, %v", s, len(s), got, ok)
	}
}

// P2.2: a text of fewer than four bytes holds no sum.
func TestOpenShort(t *testing.T) {
	for _, s := range []string{"", "\x00", "\x00\x00", "\x00\x00\x00", "\xff", "\xff\xff", "\xff\xff\xff", "a", "ab", "abc", "é", "\u65e5"} {
		wantShut(t, s)
	}
	for i := range 1 << 16 {
		wantShut(t, string([]byte{byte(i)}))
		wantShut(t, string([]byte{byte(i), byte(i >> 8)}))
		wantShut(t, string([]byte{byte(i), byte(i >> 8), byte(i >> 4)}))
	}
}

// P2.2: of four bytes the sum is the empty text's, or none.
func TestOpenFour(t *testing.T) {
	if got, ok := check.Open("\x00\x00\x00\x00"); got != "" || !ok {
		t.Errorf("the empty text, sealed: %q, %v", got, ok)
	}
	for _, s := range []string{"abcd", "\xff\xff\xff\xff", "\x01\x00\x00\x00", "\x00\x00\x00\x01", "\x00\x00\x00\x80"} {
		wantShut(t, s)
	}
}

// P2.2: texts that were never sealed, and sums that are written another way.
func TestOpenNotSealed(t *testing.T) {
	for _, s := range []string{
		"123456789",
		"123456789\xCB\xF4\x39\x26", // the highest byte first
		"\x26\x39\xF4\xCB123456789", // ahead of the text
		"123456789\xD9\xC6\x0B\x34", // all bits turned
		"123456789\x00\x00\x00\x00",
		"123456789\xff\xff\xff\xff",
		"123456789\x26\x39\xF4",
		"123456789CBF43926",
	} {
		wantShut(t, s)
	}
	for _, s := range texts() {
		got, ok := check.Open(s)
		if want, wantOK := saidOpen(s); got != want || ok != wantOK {
			t.Errorf("%.40q, %d bytes: %.40q, %v, want %.40q, %v", s, len(s), got, ok, want, wantOK)
		}
	}
}

// broken are texts of which each sealed byte is meddled with.
func broken() []string {
	all := []string{allBytes(), "123456789", "\x00\x00", "\xff\xff\xff\xff", strings.Repeat("a", 100)}
	for n := range 40 {
		all = append(all, noise(n))
	}
	return all
}

// P2.3: sealed bytes of which one, anywhere, is any other one are not opened.
func TestOpenOther(t *testing.T) {
	for _, s := range append(broken(), noise(1024)) {
		sealed := []byte(check.Seal(s))
		for i, b := range sealed {
			for d := 1; d < 256; d++ {
				sealed[i] = b ^ byte(d)
				wantShut(t, string(sealed))
			}
			sealed[i] = b
		}
	}
}

// P2.2: sealed bytes of which one, anywhere, is missing.
func TestOpenMissing(t *testing.T) {
	for _, s := range append(broken(), noise(1024)) {
		sealed := check.Seal(s)
		for i := range len(sealed) {
			wantShut(t, sealed[:i]+sealed[i+1:])
		}
	}
}

// P2.2: sealed bytes with one more, anywhere, whichever it is.
func TestOpenMore(t *testing.T) {
	for _, s := range broken() {
		sealed := check.Seal(s)
		for i := range len(sealed) + 1 {
			for b := range 256 {
				more := sealed[:i] + string([]byte{byte(b)}) + sealed[i:]
				got, ok := check.Open(more)
				if want, wantOK := saidOpen(more); got != want || ok != wantOK {
					t.Errorf("%.40q, %d more at %d: %.40q, %v", s, b, i, got, ok)
				}
			}
		}
	}
}

// P2.1, P2.2: four bytes of ones leave a sum on its way at zero, where zeros leave it: such sealed bytes are opened with a zero more or fewer, as the document's steps ask.
func TestOpenZerosBehindOnes(t *testing.T) {
	const ones = "\xff\xff\xff\xff"
	for n := range 20 {
		s := ones + strings.Repeat("\x00", n)
		if got, ok := check.Open(s + ones); got != s || !ok {
			t.Errorf("%d zeros: %q, %v", n, got, ok)
		}
		wantShut(t, s+"\x01"+ones)
	}
}
