package config_test

import (
	"encoding/binary"
	"math"
	"math/rand"
	"strings"
	"testing"

	"weirkeep/api"
	"weirkeep/config"
)

// said is an order's bytes, laid out by the library.
func said(o config.Order) string {
	s := []byte{byte(o.Kind)}
	for _, n := range []int{o.N, o.M, o.R.From, o.R.To} {
		s = binary.LittleEndian.AppendUint16(s, uint16(n))
	}
	return string(s)
}

// wantCoded fails, unless the order is encoded as these bytes, and these are decoded as it.
func wantCoded(t *testing.T, o config.Order, want string) {
	t.Helper()
	if s, e := config.Encode(o); s != want || e != api.OK {
		t.Errorf("Encode(%v): %q, %d, want %q", o, s, e, want)
	}
	if got, e := config.Decode(want); got != o || e != api.OK {
		t.Errorf("Decode(%q): %v, %d, want %v", want, got, e, o)
	}
}

func wantNoEncode(t *testing.T, o config.Order) {
	t.Helper()
	if s, e := config.Encode(o); s != "" || e != api.ErrArg {
		t.Errorf("Encode(%v): %q, %d, want ErrArg", o, s, e)
	}
}

func wantNoDecode(t *testing.T, s string) {
	t.Helper()
	if o, e := config.Decode(s); o != (config.Order{}) || e != api.ErrWire {
		t.Errorf("Decode(%q): %v, %d, want ErrWire", s, o, e)
	}
}

// withField is o with the i-th of its fields another one, in the order in which they are written.
func withField(o config.Order, i, n int) config.Order {
	switch i {
	case 0:
		o.Kind = n
	case 1:
		o.N = n
	case 2:
		o.M = n
	case 3:
		o.R.From = n
	case 4:
		o.R.To = n
	}
	return o
}

// P12.4: by hand: where each field stands, the lowest byte first.
func TestEncodeByHand(t *testing.T) {
	wantCoded(t, config.Order{}, "\x00\x00\x00\x00\x00\x00\x00\x00\x00")
	wantCoded(t, config.Order{Kind: 1, N: 2, M: 3, R: span(4, 5)}, "\x01\x02\x00\x03\x00\x04\x00\x05\x00")
	wantCoded(t, config.Order{Kind: 0xab, N: 0x1234, M: 0x5678, R: span(0x9abc, 0xdef0)}, "\xab\x34\x12\x78\x56\xbc\x9a\xf0\xde")
	wantCoded(t, config.Order{Kind: 255, N: 65535, M: 65535, R: span(65535, 65535)}, "\xff\xff\xff\xff\xff\xff\xff\xff\xff")
	wantCoded(t, place(10, 256, 2, 0), "\x03\x02\x00\x00\x00\x0a\x00\x00\x01")
}

// P12.4: each field at, and around, its edges, with the others at both of theirs.
func TestEncodeEdges(t *testing.T) {
	least, most := config.Order{}, config.Order{Kind: 255, N: 65535, M: 65535, R: span(65535, 65535)}
	for _, o := range []config.Order{least, most, place(10, 20, 1, 2)} {
		for i := range 5 {
			good, bad := []int{0, 1, 2, 127, 128, 254, 255}, []int{-1, -2, -255, 1 << 16, 1<<16 + 1, 1 << 32, 1<<32 + 1, math.MinInt32, math.MinInt, math.MaxInt}
			above := []int{256, 257, 32767, 32768, 65534, 65535}
			if i > 0 {
				good = append(good, above...)
			} else {
				bad = append(bad, above...)
			}
			for _, n := range good {
				x := withField(o, i, n)
				wantCoded(t, x, said(x))
			}
			for _, n := range bad {
				wantNoEncode(t, withField(o, i, n))
				wantNoEncode(t, withField(withField(o, i, n), (i+2)%5, -1))
			}
		}
	}
}

// P12.4: an order that Apply refuses is one all the same.
func TestEncodeRefused(t *testing.T) {
	for _, o := range []config.Order{place(20, 10, 1, 1), place(0, 300, 8, 9), come(100), leave(65535), tables(0), {Kind: 200}} {
		wantCoded(t, o, said(o))
	}
}

// P12.4: bytes of all lengths: of nine they are an order, of others none; a text that was encoded with a byte less, anywhere, and one more.
func TestDecodeLength(t *testing.T) {
	wantNoDecode(t, "")
	for n := range 40 {
		for _, b := range []string{"\x00", "\x01", "\xff", "x"} {
			if s := strings.Repeat(b, n); n != 9 {
				wantNoDecode(t, s)
			} else if o, e := config.Decode(s); said(o) != s || e != api.OK {
				t.Errorf("Decode(%q): %v, %d", s, o, e)
			}
		}
	}
	s := said(place(10, 256, 258, 3))
	for i := range s {
		wantNoDecode(t, s[:i])
		wantNoDecode(t, s[i+1:])
		wantNoDecode(t, s[:i]+s[i+1:])
		wantNoDecode(t, s[:i]+"\x00"+s[i:])
	}
	wantNoDecode(t, s+"\x00")
	wantNoDecode(t, s+s)
	wantNoDecode(t, strings.Repeat(s, 1000))
}

// P12.4: orders of all kinds, and bytes of all kinds, there and back.
func TestThereAndBack(t *testing.T) {
	random := rand.New(rand.NewSource(12))
	for range 20000 {
		s := make([]byte, 9)
		random.Read(s)
		o := config.Order{Kind: int(s[0]), N: int(s[1]) | int(s[2])<<8, M: int(s[3]) | int(s[4])<<8, R: span(int(s[5])|int(s[6])<<8, int(s[7])|int(s[8])<<8)}
		wantCoded(t, o, string(s))
	}
}
