package wire_test

import (
	"encoding/binary"
	"hash/crc32"
	"math"
	"math/rand"
	"slices"
	"strings"
	"testing"

	"weirkeep/api"
	"weirkeep/field"
	"weirkeep/wire"
)

// saidNumber is a number of a message, as the document says it: its name, how it is set, the greatest one, where it stands among the bytes, and in how many.
type saidNumber struct {
	name         string
	set          func(m *api.Msg, n int)
	greatest     int
	place, bytes int
}

func saidNumbers() []saidNumber {
	return []saidNumber{
		{"Kind", func(m *api.Msg, n int) { m.Kind = n }, 255, 0, 1},
		{"From", func(m *api.Msg, n int) { m.From = n }, 7, 1, 1},
		{"To", func(m *api.Msg, n int) { m.To = n }, 7, 2, 1},
		{"Epoch", func(m *api.Msg, n int) { m.Epoch = n }, 1 << 40, 3, 8},
		{"Seq", func(m *api.Msg, n int) { m.Seq = n }, 1 << 40, 11, 8},
		{"Off", func(m *api.Msg, n int) { m.Off = n }, 256, 19, 2},
		{"Len", func(m *api.Msg, n int) { m.Len = n }, 256, 21, 2},
	}
}

// textPlace is where the length of Data stands, and dataPlace where Data does.
const (
	textPlace = 23
	dataPlace = 25
)

// saidBody is m's fields one behind the other, as the document says them, whatever they are.
func saidBody(m api.Msg) string {
	b := []byte{byte(m.Kind), byte(m.From), byte(m.To)}
	b = binary.LittleEndian.AppendUint64(b, uint64(m.Epoch))
	b = binary.LittleEndian.AppendUint64(b, uint64(m.Seq))
	b = binary.LittleEndian.AppendUint16(b, uint16(m.Off))
	b = binary.LittleEndian.AppendUint16(b, uint16(m.Len))
	b = binary.LittleEndian.AppendUint16(b, uint16(len(m.Data)))
	return string(b) + m.Data
}

// saidSeal is s with its sum behind it.
func saidSeal(s string) string {
	return s + string(binary.LittleEndian.AppendUint32(nil, crc32.ChecksumIEEE([]byte(s))))
}

// plain is a message of which no two fields are alike.
func plain() api.Msg {
	return api.Msg{Kind: 200, From: 1, To: 6, Epoch: 0x0102030405, Seq: 0x0607080901, Off: 0x00fe, Len: 0x0011, Data: "a block's data"}
}

// greatest is the message of which all is as great as it may be.
func greatest() api.Msg {
	return api.Msg{Kind: 255, From: 7, To: 7, Epoch: 1 << 40, Seq: 1 << 40, Off: 256, Len: 256, Data: strings.Repeat("\xff", 1024)}
}

// good are messages of many kinds that Check takes.
func good() []api.Msg {
	all := []api.Msg{{}, plain(), greatest()}
	for _, base := range all[:3] {
		for _, f := range saidNumbers() {
			for _, n := range []int{0, 1, f.greatest / 2, f.greatest - 1, f.greatest} {
				m := base
				f.set(&m, n)
				all = append(all, m)
			}
		}
		for _, data := range []string{"", "x", "\x00", "\xff\xfe", "über", "\u65e5\u672c", strings.Repeat("y", 255), strings.Repeat("y", 256), strings.Repeat("é", 512), strings.Repeat("z", 1023)} {
			m := base
			m.Data = data
			all = append(all, m)
		}
	}
	random := rand.New(rand.NewSource(3))
	for range 200 {
		var m api.Msg
		for _, f := range saidNumbers() {
			f.set(&m, random.Intn(f.greatest+1))
		}
		data := make([]byte, random.Intn(60))
		random.Read(data)
		m.Data = string(data)
		all = append(all, m)
	}
	return all
}

// refusedMsg is a message that Check does not take, and the error that stands.
type refusedMsg struct {
	name string
	m    api.Msg
	e    api.Errno
}

// refused are messages of which one field is outside its edges, near to them and far, or such that it would fit if it were cut to its bytes; and of which several are.
func refused() []refusedMsg {
	var all []refusedMsg
	for _, base := range []api.Msg{{}, plain(), greatest()} {
		for _, f := range saidNumbers() {
			for _, n := range []int{-1, -2, math.MinInt, f.greatest + 1, f.greatest + 2, math.MaxInt, 1 << 8, 1 << 16, 1 << 32} {
				if n >= 0 && n <= f.greatest {
					continue
				}
				m := base
				f.set(&m, n)
				all = append(all, refusedMsg{f.name, m, api.ErrArg})
				m.Data = strings.Repeat("x", 1025) // ErrArg is named first
				all = append(all, refusedMsg{f.name + " and Data", m, api.ErrArg})
			}
		}
		for _, length := range []int{1025, 1026, 2048, 1 << 16, 1<<16 + 5} {
			m := base
			m.Data = strings.Repeat("x", length)
			all = append(all, refusedMsg{"Data", m, api.ErrLong})
		}
		m := base
		m.Data = strings.Repeat("é", 513) // bytes count, not runes
		all = append(all, refusedMsg{"Data of runes", m, api.ErrLong})
	}
	all = append(all, refusedMsg{"all", api.Msg{Kind: -1, From: 8, To: -1, Epoch: -1, Seq: 1<<40 + 1, Off: 257, Len: -1, Data: strings.Repeat("x", 1025)}, api.ErrArg})
	return all
}

// P3.1: both edges of each field, inside, by themselves and beside the edges of the others.
func TestCheckTakes(t *testing.T) {
	for _, m := range good() {
		if e := wire.Check(m); e != api.OK {
			t.Errorf("%#v: %d", m, e)
		}
	}
}

// P3.1: both edges of each field, outside; ErrArg stands ahead of ErrLong.
func TestCheckRefuses(t *testing.T) {
	for _, x := range refused() {
		if e := wire.Check(x.m); e != x.e {
			t.Errorf("%s: %#v: %d, want %d", x.name, x.m, e, x.e)
		}
	}
}

// P3.1: each number next to its edges, one by one.
func TestCheckEdges(t *testing.T) {
	for _, f := range saidNumbers() {
		for n, want := range map[int]api.Errno{-1: api.ErrArg, 0: api.OK, 1: api.OK, f.greatest - 1: api.OK, f.greatest: api.OK, f.greatest + 1: api.ErrArg} {
			m := plain()
			f.set(&m, n)
			if e := wire.Check(m); e != want {
				t.Errorf("%s %d: %d, want %d", f.name, n, e, want)
			}
		}
	}
	for length, want := range map[int]api.Errno{0: api.OK, 1: api.OK, 1023: api.OK, 1024: api.OK, 1025: api.ErrLong} {
		m := plain()
		m.Data = strings.Repeat("x", length)
		if e := wire.Check(m); e != want {
			t.Errorf("Data of %d bytes: %d, want %d", length, e, want)
		}
	}
}

// P3.2: bytes that are written out.
func TestEncodeKnown(t *testing.T) {
	for _, x := range []struct {
		m    api.Msg
		want string
	}{
		{api.Msg{}, strings.Repeat("\x00", 25) + "\x8f\x0e\xcf\xe9"},
		{api.Msg{Kind: 2, From: 1, To: 7, Epoch: 3, Seq: 1 << 40, Off: 256, Len: 5, Data: "x"},
			saidSeal("\x02\x01\x07\x03\x00\x00\x00\x00\x00\x00\x00\x00\x00\x00\x00\x00\x01\x00\x00\x00\x01\x05\x00\x01\x00x")},
		{plain(),
			saidSeal("\xc8\x01\x06\x05\x04\x03\x02\x01\x00\x00\x00\x01\x09\x08\x07\x06\x00\x00\x00\xfe\x00\x11\x00\x0e\x00a block's data")},
		{greatest(),
			saidSeal("\xff\x07\x07\x00\x00\x00\x00\x00\x01\x00\x00\x00\x00\x00\x00\x00\x01\x00\x00\x00\x01\x00\x01\x00\x04" + strings.Repeat("\xff", 1024))},
	} {
		if s, err := wire.Encode(x.m); s != x.want || err != nil {
			t.Errorf("%#v: %q, %v, want %q", x.m, s, err, x.want)
		}
	}
}

// P3.2: the bytes of messages of many kinds, as the document says them.
func TestEncode(t *testing.T) {
	for _, m := range good() {
		s, err := wire.Encode(m)
		if want := saidSeal(saidBody(m)); s != want || err != nil {
			t.Errorf("%#v: %q, %v, want %q", m, s, err, want)
		}
	}
}

// P3.2: Check's error, with nothing under it, and no bytes.
func TestEncodeRefuses(t *testing.T) {
	for _, x := range refused() {
		s, err := wire.Encode(x.m)
		if s != "" || field.Code(err) != x.e || !slices.Equal(field.Chain(err), []api.Errno{x.e}) {
			t.Errorf("%s: %q, %d, want %d", x.name, s, field.Chain(err), x.e)
		}
		if f, ok := err.(*field.Fault); ok && (f.At != 0 || f.Under != nil) {
			t.Errorf("%s: at %d, under it %v", x.name, f.At, f.Under)
		}
	}
}

// P3.4: back to the sender, of the same Epoch and Seq; nothing else of m is in it, and nothing is refused.
func TestReply(t *testing.T) {
	all := good()
	for _, x := range refused() {
		all = append(all, x.m)
	}
	for _, m := range all {
		before := m
		for _, kind := range []int{0, 1, 128, 255, 256, -1, math.MaxInt, math.MinInt, m.Kind, m.Kind + 128} {
			want := api.Msg{Kind: kind, From: m.To, To: m.From, Epoch: m.Epoch, Seq: m.Seq, Off: 0, Len: 0, Data: ""}
			if got := wire.Reply(m, kind); got != want || m != before {
				t.Errorf("Reply(%#v, %d): %#v, want %#v", m, kind, got, want)
			}
		}
	}
}

// P3.4: a reply to a message that Check takes is taken too, if its kind may be.
func TestReplyIsTaken(t *testing.T) {
	for _, m := range good() {
		for kind, want := range map[int]api.Errno{0: api.OK, 255: api.OK, -1: api.ErrArg, 256: api.ErrArg} {
			if e := wire.Check(wire.Reply(m, kind)); e != want {
				t.Errorf("Reply(%#v, %d): %d, want %d", m, kind, e, want)
			}
		}
	}
}
