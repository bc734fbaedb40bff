package store_test

import (
	"math/rand"
	"strings"
	"testing"

	"weirkeep/api"
	"weirkeep/store"
)

func wantValue(t *testing.T, ver int, data, want string, e api.Errno) {
	t.Helper()
	if got, gotE := store.Value(ver, data); got != want || gotE != e {
		t.Fatalf("Value(%d, %.40q): %q, %d, want %q, %d", ver, data, got, gotE, want, e)
	}
}

func wantParse(t *testing.T, s string, ver int, data string, e api.Errno) {
	t.Helper()
	if gotVer, got, gotE := store.Parse(s); gotVer != ver || got != data || gotE != e {
		t.Fatalf("Parse(%.60q): %d, %q, %d, want %d, %q, %d", s, gotVer, got, gotE, ver, data, e)
	}
}

// goodVers and goodData are what a Value may have, at and around the edges.
func goodVers() []int {
	return []int{0, 1, 2, 255, 256, 258, 1<<16 + 1, 1<<32 - 1, 1 << 32, 0x0102030405, 1<<40 - 1, 1 << 40}
}

func goodData() []string {
	return []string{"", "\x00", "\xff", "a", "ab", "\x00a\x00", full[:15], full, strings.Repeat("\x00", 16), strings.Repeat("\xff", 16)}
}

func longData() []string {
	return []string{long, full + full, strings.Repeat("x", 256), strings.Repeat("x", 272), strings.Repeat("x", 1024), strings.Repeat("x", 1025), strings.Repeat("x", 1<<16), strings.Repeat("x", 1<<16+3)}
}

// P13.1: by hand: the version in eight bytes, the data's length in two, the lowest byte first, and the data.
func TestValueByHand(t *testing.T) {
	wantValue(t, 258, "ab", "\x02\x01\x00\x00\x00\x00\x00\x00\x02\x00ab", api.OK)
	wantValue(t, 0, "", "\x00\x00\x00\x00\x00\x00\x00\x00\x00\x00", api.OK)
	wantValue(t, 1<<40, full, "\x00\x00\x00\x00\x00\x01\x00\x00\x10\x00"+full, api.OK)
	wantParse(t, "\x02\x01\x00\x00\x00\x00\x00\x00\x02\x00ab", 258, "ab", api.OK)
	wantParse(t, "\x00\x00\x00\x00\x00\x01\x00\x00\x10\x00"+full, 1<<40, full, api.OK)
}

// P13.1: what may be is written, and read back.
func TestValueAndBack(t *testing.T) {
	for _, ver := range goodVers() {
		for _, data := range goodData() {
			wantValue(t, ver, data, value(ver, data), api.OK)
			wantParse(t, value(ver, data), ver, data, api.OK)
		}
	}
}

// P13.1: ErrArg of the version, ahead of ErrLong of the data.
func TestValueWrong(t *testing.T) {
	for _, ver := range wrongVers() {
		for _, data := range append(goodData(), longData()...) {
			wantValue(t, ver, data, "", api.ErrArg)
		}
	}
	for _, ver := range goodVers() {
		for _, data := range longData() {
			wantValue(t, ver, data, "", api.ErrLong)
		}
	}
}

// P13.1: each beginning of a Value, and what has more behind it, is none.
func TestParseLength(t *testing.T) {
	for _, ver := range goodVers() {
		for _, data := range goodData() {
			s := value(ver, data)
			for n := range s {
				wantParse(t, s[:n], 0, "", api.ErrWire)
			}
			for _, more := range []string{"\x00", "x", "\x00\x00", s, long} {
				wantParse(t, s+more, 0, "", api.ErrWire)
			}
		}
	}
}

// P13.1: a version above MaxSeq, also one that is none.
func TestParseVersion(t *testing.T) {
	for _, ver := range []uint64{1<<40 + 1, 1 << 41, 1<<48 + 1, 1<<56 + 1, 1<<62 + 1, 1<<63 - 1, 1 << 63, 1<<63 + 1, 1<<64 - 1} {
		for _, data := range goodData() {
			wantParse(t, raw(ver, uint16(len(data)), data), 0, "", api.ErrWire)
		}
	}
}

// P13.1: data that is longer than MaxData, and a length that is not the data's.
func TestParseData(t *testing.T) {
	for _, data := range longData() {
		wantParse(t, raw(4, uint16(len(data)), data), 0, "", api.ErrWire)
	}
	for have := range 20 {
		for said := range 20 {
			s := raw(4, uint16(said), long[:min(have, 17)])
			if len(s) == 10+said && said <= 16 {
				wantParse(t, s, 4, s[10:], api.OK)
			} else {
				wantParse(t, s, 0, "", api.ErrWire)
			}
		}
		for _, high := range []uint16{256, 1024, 1 << 15, 0xff00} {
			wantParse(t, raw(4, high+uint16(have), long[:min(have, 17)]), 0, "", api.ErrWire)
		}
	}
}

// P13.1: bytes of any kind, most of them nearly a Value.
func TestParseAny(t *testing.T) {
	random := rand.New(rand.NewSource(1))
	taken := 0
	for range 40000 {
		s := []byte(raw(random.Uint64()>>(20+random.Intn(44)), uint16(random.Intn(19)), long[:random.Intn(18)]))
		if random.Intn(2) == 0 {
			s[8] = byte(len(s) - 10)
		}
		if random.Intn(3) == 0 {
			s[random.Intn(len(s))] = byte(random.Intn(256))
		}
		s = s[:len(s)-random.Intn(min(4, len(s)))*random.Intn(2)]
		ver, data, ok := saidParse(string(s))
		if ok {
			wantParse(t, string(s), ver, data, api.OK)
			wantValue(t, ver, data, string(s), api.OK)
			taken++
		} else {
			wantParse(t, string(s), 0, "", api.ErrWire)
		}
	}
	if taken < 4000 || taken > 36000 {
		t.Errorf("%d of them are taken: they are too much alike", taken)
	}
}
