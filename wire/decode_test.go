package wire_test

import (
	"encoding/binary"
	"math"
	"math/rand"
	"slices"
	"strings"
	"testing"

	"weirkeep/api"
	"weirkeep/field"
	"weirkeep/wire"
)

// wantNone fails, unless s is no message, and the errors are just these.
func wantNone(t *testing.T, what, s string, want ...api.Errno) error {
	t.Helper()
	m, err := wire.Decode(s)
	if m != (api.Msg{}) {
		t.Errorf("%s: %.60q: beside the error %#v", what, s, m)
	}
	if got := field.Chain(err); !slices.Equal(got, want) {
		t.Errorf("%s: %.60q: %d, want %d", what, s, got, want)
	}
	return err
}

// wantWire fails, unless s, sealed, is no message, and under ErrWire lie just these errors, the first one a fault at that place.
func wantWire(t *testing.T, what, s string, at int, under ...api.Errno) {
	t.Helper()
	err := wantNone(t, what, saidSeal(s), append([]api.Errno{api.ErrWire}, under...)...)
	outer, ok := err.(*field.Fault)
	if !ok || outer.E != api.ErrWire || outer.At != 0 {
		t.Fatalf("%s: %v", what, err)
	}
	inner, ok := outer.Under.(*field.Fault)
	if !ok || inner.E != under[0] || inner.At != at {
		t.Errorf("%s: under it %v, want %d at %d", what, outer.Under, under[0], at)
	}
}

// wantRefused fails, unless s, sealed, is no message, since Check does not take what is read.
func wantRefused(t *testing.T, what, s string) {
	t.Helper()
	wantWire(t, what, s, 0, api.ErrArg)
}

// P3.3, P3.5: what is encoded is decoded; so is what the document's words come to.
func TestDecode(t *testing.T) {
	for _, m := range good() {
		s, err := wire.Encode(m)
		if err != nil {
			t.Fatal(err)
		}
		if got, err := wire.Decode(s); got != m || err != nil {
			t.Errorf("%#v: %#v, %v", m, got, err)
		}
		if got, err := wire.Decode(saidSeal(saidBody(m))); got != m || err != nil {
			t.Errorf("%#v, said: %#v, %v", m, got, err)
		}
	}
}

// P3.3, P3.5: bytes of which one, anywhere, is any other one.
func TestDecodeOther(t *testing.T) {
	for _, m := range []api.Msg{{}, plain(), {Kind: 255, From: 7, To: 7, Epoch: 1 << 40, Seq: 1 << 40, Off: 256, Len: 256, Data: "\xff\xff\xff\xff"}} {
		wantOthersNone(t, m, func(yield func(byte) bool) {
			for d := 1; d < 256 && yield(byte(d)); d++ {
			}
		})
	}
	wantOthersNone(t, greatest(), slices.Values([]byte{1, 2, 16, 128, 255}))
}

// wantOthersNone fails, unless m's bytes are none where one of them is another one by one of these bits.
func wantOthersNone(t *testing.T, m api.Msg, bits func(yield func(byte) bool)) {
	t.Helper()
	s, err := wire.Encode(m)
	if err != nil {
		t.Fatal(err)
	}
	other := []byte(s)
	for i, b := range other {
		for d := range bits {
			other[i] = b ^ d
			wantNone(t, "one byte is another one", string(other), api.ErrSum)
		}
		other[i] = b
	}
}

// P3.3: bytes that are not sealed, or not so: ErrSum, and nothing under it, whatever else is wrong.
func TestDecodeNotSealed(t *testing.T) {
	body := saidBody(plain())
	sealed := saidSeal(body)
	end := len(body)
	turned := []byte(sealed[end:])
	slices.Reverse(turned)
	for what, s := range map[string]string{
		"nothing":               "",
		"one byte":              "\x00",
		"three bytes":           "\x00\x00\x00",
		"four bytes":            "\x00\x00\x00\x01",
		"the fields alone":      body,
		"a byte of the sum cut": sealed[:len(sealed)-1],
		"the sum turned":        body + string(turned),
		"the sum ahead":         sealed[end:] + body,
		"one byte more":         sealed + "\x00",
		"another one's sum":     saidBody(greatest()) + sealed[end:],
		"a text":                "a text that nobody sealed",
		"noughts":               strings.Repeat("\x00", 29),
		"ones":                  strings.Repeat("\xff", 29),
		"long":                  strings.Repeat("x", 5000),
		"fields that are wrong": strings.Repeat("\xff", 25) + "\x00\x00\x00\x00",
		"fields that are short": "\x01\x02\x00\x00\x00\x00",
	} {
		err := wantNone(t, what, s, api.ErrSum)
		if f, ok := err.(*field.Fault); ok && (f.At != 0 || f.Under != nil) {
			t.Errorf("%s: at %d, under it %v", what, f.At, f.Under)
		}
	}
	for n := range len(sealed) {
		wantNone(t, "cut off", sealed[:n], api.ErrSum)
	}
}

// P3.3: the document's example.
func TestDecodeTwoBytes(t *testing.T) {
	wantWire(t, "two bytes", "\x01\x02", 2, api.ErrShort)
	wantWire(t, "two bytes that are wrong", "\xff\xff", 2, api.ErrShort)
}

// fieldAt tells where the field begins to which the byte at that place belongs.
func fieldAt(place int) int {
	begin := textPlace
	for _, f := range saidNumbers() {
		if place >= f.place && place < f.place+f.bytes {
			begin = f.place
		}
	}
	return begin
}

// P3.3: sealed bytes that end within each of the fields, or ahead of it: the reader's error of that field, also where the fields ahead of it are such as Check refuses.
func TestDecodeShort(t *testing.T) {
	wrong := api.Msg{Kind: 255, From: 8, To: 255, Epoch: 1<<40 + 1, Seq: math.MaxInt, Off: 257, Len: 65535, Data: "abc"}
	for _, m := range []api.Msg{plain(), {Data: "\x00"}, greatest(), wrong} {
		body := saidBody(m)
		for n := range len(body) {
			want := []api.Errno{api.ErrShort}
			if n == textPlace || n == textPlace+1 { // the text's length is missed: the number's fault lies under the text's
				want = append(want, api.ErrShort)
			}
			wantWire(t, "short", body[:n], fieldAt(n), want...)
		}
	}
}

// P3.3: numbers of eight bytes that are 2^63 or more can't be read: that is named, whatever stands behind and ahead of them.
func TestDecodeLongNumber(t *testing.T) {
	for _, f := range saidNumbers() {
		if f.bytes != 8 {
			continue
		}
		for _, n := range []uint64{1 << 63, 1<<63 + 1, math.MaxUint64} {
			long := string(binary.LittleEndian.AppendUint64(nil, n))
			body := saidBody(plain())
			body = body[:f.place] + long + body[f.place+8:]
			for what, s := range map[string]string{
				"alone":                      body,
				"From that is wrong":         body[:1] + "\xff" + body[2:],
				"bytes behind the last":      body + "more",
				"nothing behind it":          body[:f.place+8],
				"a text of too great length": body[:textPlace] + "\xff\xff",
			} {
				wantWire(t, f.name+", "+what, s, f.place, api.ErrLong)
			}
		}
	}
}

// P3.3: a text whose length is above MaxText can't be read, whether so many bytes are there or not.
func TestDecodeLongText(t *testing.T) {
	head := saidBody(plain())[:textPlace]
	for _, length := range []int{1025, 1026, 2048, 65535} {
		said := string(binary.LittleEndian.AppendUint16(nil, uint16(length)))
		for _, there := range []int{0, 1, 1024, length, length + 1} {
			wantWire(t, "long text", head+said+strings.Repeat("x", there), textPlace, api.ErrLong)
		}
	}
	m := plain()
	m.Data = strings.Repeat("x", 1024)
	if got, err := wire.Decode(saidSeal(saidBody(m))); got != m || err != nil {
		t.Errorf("a text of 1024 bytes: %v", err)
	}
}

// P3.3: more behind the last field is End's error, also where Check would refuse the fields.
func TestDecodeMore(t *testing.T) {
	wrong := plain()
	wrong.From = 8
	for _, m := range []api.Msg{{}, plain(), greatest(), wrong} {
		body := saidBody(m)
		for _, more := range []string{"\x00", "y", "more", strings.Repeat("\xff", 1100), body, saidSeal("")} {
			wantWire(t, "more", body+more, len(body), api.ErrLong)
		}
	}
	wantWire(t, "sealed twice", saidSeal(saidBody(plain())), len(saidBody(plain())), api.ErrLong)
}

// P3.3: fields that can be read, and Check refuses: one of them, at its edge and far from it, and all of them.
func TestDecodeRefused(t *testing.T) {
	for _, base := range []api.Msg{{}, plain(), greatest()} {
		for _, f := range saidNumbers() {
			last := math.MaxInt
			if f.bytes < 8 {
				last = 1<<(8*f.bytes) - 1
			}
			for _, n := range []int{f.greatest - 1, f.greatest, f.greatest + 1, f.greatest + 2, last - 1, last} {
				if n > last || n < 0 {
					continue
				}
				m := base
				f.set(&m, n)
				if n > f.greatest {
					wantRefused(t, f.name, saidBody(m))
				} else if got, err := wire.Decode(saidSeal(saidBody(m))); got != m || err != nil {
					t.Errorf("%s %d: %#v, %v", f.name, n, got, err)
				}
			}
		}
	}
	wantRefused(t, "all", saidBody(api.Msg{Kind: 255, From: 255, To: 255, Epoch: math.MaxInt, Seq: math.MaxInt, Off: 65535, Len: 65535, Data: "x"}))
}

// P3.3: whatever is sealed: a message that is told is one that Check takes and whose bytes these are; each other time there is ErrWire, with one error under it.
func TestDecodeWhatever(t *testing.T) {
	random := rand.New(rand.NewSource(5))
	all := good()
	told := 0
	for range 20000 {
		body := []byte(saidBody(all[random.Intn(len(all))]))
		for range random.Intn(3) {
			body[random.Intn(min(len(body), 40))] = byte(random.Intn(256) >> random.Intn(8))
		}
		if random.Intn(8) == 0 {
			body = body[:random.Intn(len(body))]
		}
		s := saidSeal(string(body))
		m, err := wire.Decode(s)
		if err == nil {
			told++
			if wire.Check(m) != api.OK || saidBody(m) != string(body) {
				t.Fatalf("%q: %#v", body, m)
			}
			continue
		}
		chain := field.Chain(err)
		if m != (api.Msg{}) || len(chain) < 2 || chain[0] != api.ErrWire || !slices.Contains([]api.Errno{api.ErrShort, api.ErrLong, api.ErrArg}, chain[1]) {
			t.Fatalf("%q: %#v, %d", body, m, chain)
		}
	}
	if told < 1000 || told > 19000 {
		t.Errorf("%d messages were told: the bytes are too much alike", told)
	}
}

// R1: bytes that are no message, sealed or not, have an answer.
func TestDecodeNoise(t *testing.T) {
	random := rand.New(rand.NewSource(6))
	for n := range 1200 {
		b := make([]byte, n)
		random.Read(b)
		if _, err := wire.Decode(string(b)); err == nil {
			t.Errorf("%d bytes are a message", n)
		}
		if _, err := wire.Decode(saidSeal(string(b))); field.Code(err) != api.ErrWire {
			t.Errorf("%d bytes, sealed: %v", n, err)
		}
	}
}

// R5: an answer hangs on what was given alone, not on the calls ahead of it.
func TestAgain(t *testing.T) {
	for _, m := range good() {
		first, _ := wire.Encode(m)
		wire.Decode("between")
		wire.Decode(saidSeal("between"))
		wire.Encode(api.Msg{Kind: -1})
		again, err := wire.Encode(m)
		if again != first || err != nil {
			t.Errorf("%#v: %q, and then %q", m, first, again)
		}
		if got, err := wire.Decode(first); got != m || err != nil {
			t.Errorf("%#v: %#v, %v", m, got, err)
		}
	}
}
