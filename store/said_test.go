package store_test

import (
	"encoding/binary"
	"fmt"
	"math"
	"slices"
	"strings"
	"testing"

	"weirkeep/api"
	"weirkeep/store"
)

const (
	kindRead = iota + 1
	kindWrite
	kindTime
	kindEpoch
)

// full is data that can't be longer, long is by a byte too long.
const (
	full = "0123456789abcdef"
	long = full + "x"
)

func block(id, ver int, data string) api.Block { return api.Block{ID: id, Ver: ver, Data: data} }

// raw are the fields of a Value, whatever they are.
func raw(ver uint64, length uint16, data string) string {
	b := binary.LittleEndian.AppendUint64(nil, ver)
	return string(binary.LittleEndian.AppendUint16(b, length)) + data
}

// value is the Value of what may be.
func value(ver int, data string) string { return raw(uint64(ver), uint16(len(data)), data) }

// saidParse is Parse, field by field.
func saidParse(s string) (int, string, bool) {
	if len(s) < 10 {
		return 0, "", false
	}
	ver, length := binary.LittleEndian.Uint64([]byte(s)), int(binary.LittleEndian.Uint16([]byte(s[8:])))
	if ver > 1<<40 || length > 16 || len(s) != 10+length {
		return 0, "", false
	}
	return int(ver), s[10:], true
}

// wrongVers are numbers that no Value has, among them such as had one if they were cut to fewer bits.
func wrongVers() []int {
	return []int{-1, -2, -1 << 40, math.MinInt32, math.MinInt, math.MinInt + 1, 1<<40 + 1, 1 << 41, 1<<48 + 1, 1<<56 + 1, 1<<62 + 1, math.MaxInt}
}

// noValues are texts that are no Values.
func noValues() []string {
	return []string{"", "x", "\x00", value(4, "a")[:7], value(4, "a")[:8], value(4, "a")[:10], value(4, "a") + "x", value(4, "") + "\x00", raw(1<<40+1, 0, ""), raw(1<<63, 1, "a"), raw(4, 17, long), raw(4, 1, "ab"), raw(4, 2, "a"), strings.Repeat("x", 1024)}
}

// me is the number of the server in most tests.
const me = 2

// msg is a message to the server of most tests; Len is something that counts for nothing.
func msg(kind, from, epoch, seq, off int, data string) api.Msg {
	return api.Msg{Kind: kind, From: from, To: me, Epoch: epoch, Seq: seq, Off: off, Len: 77, Data: data}
}

func readOf(epoch, off int) api.Msg { return msg(kindRead, 6, epoch, 40, off, "") }

func timeOf(from, until int) api.Msg { return msg(kindTime, 7, 0, 41, from, value(until, "")) }

func epochOf(epoch int) api.Msg { return msg(kindEpoch, 7, epoch, 42, 9, "") }

func writeOf(from, epoch, seq int, b api.Block) api.Msg {
	return msg(kindWrite, from, epoch, seq, b.ID, value(b.Ver, b.Data))
}

// told is a message in few words.
func told(m api.Msg) string {
	return fmt.Sprintf("(kind %d, %d to %d, epoch %d, seq %d, off %d, len %d, %.40q)", m.Kind, m.From, m.To, m.Epoch, m.Seq, m.Off, m.Len, m.Data)
}

// wantAnswer fails, unless m is answered so, each field, by a server that is in that epoch then.
func wantAnswer(t *testing.T, s *store.Server, m api.Msg, now, inEpoch int, status api.Errno, data string) {
	t.Helper()
	want := api.Msg{Kind: 128 + m.Kind, From: m.To, To: m.From, Epoch: inEpoch, Seq: m.Seq, Off: m.Off, Len: int(status), Data: data}
	if got, is := s.Handle(m, now); got != want || !is {
		t.Fatalf("%s at %d: %s, %t, want %s", told(m), now, told(got), is, told(want))
	}
}

// wantSilence fails, if m is answered.
func wantSilence(t *testing.T, s *store.Server, m api.Msg, now int) {
	t.Helper()
	if got, is := s.Handle(m, now); got != (api.Msg{}) || is {
		t.Fatalf("%s at %d: %s, %t, want no answer", told(m), now, told(got), is)
	}
}

// wantBlocks fails, unless the server, which has power, has just these blocks, by ID.
func wantBlocks(t *testing.T, s *store.Server, blocks ...api.Block) {
	t.Helper()
	if got := s.List(); !slices.Equal(got, blocks) {
		t.Fatalf("List is %v, want %v", got, blocks)
	}
	for id := -1; id <= 257; id++ {
		want, e := api.Block{}, api.ErrNone
		for _, b := range blocks {
			if b.ID == id {
				want, e = b, api.OK
			}
		}
		if got, gotE := s.Get(id); got != want || gotE != e {
			t.Fatalf("Get(%d): %v, %d, want %v, %d", id, got, gotE, want, e)
		}
	}
}

// wantNothingPut fails, unless do leaves the plate alone, and the blocks as they are.
func wantNothingPut(t *testing.T, s *store.Server, do func()) {
	t.Helper()
	calls, blocks := s.Calls(), s.List()
	do()
	if s.Calls() != calls {
		t.Fatalf("%d calls of the plate", s.Calls()-calls)
	}
	if got := s.List(); !slices.Equal(got, blocks) {
		t.Fatalf("List is %v, was %v", got, blocks)
	}
}

// serverOf is a server of 4 sectors in the epoch 3, on which these blocks are; its clients 0 to 5 may write till 10.
func serverOf(t *testing.T, blocks ...api.Block) *store.Server {
	t.Helper()
	s := store.New(me, 4)
	for _, b := range blocks {
		wantPut(t, s, b, api.OK)
	}
	wantAnswer(t, s, epochOf(3), 0, 3, api.OK, "")
	for from := range 6 {
		wantAnswer(t, s, timeOf(from, 10), 0, 3, api.OK, "")
	}
	return s
}

func wantPut(t *testing.T, s *store.Server, b api.Block, want api.Errno) {
	t.Helper()
	if got := s.Put(b); got != want {
		t.Fatalf("Put(%v): %d, want %d", b, got, want)
	}
}

func wantDrop(t *testing.T, s *store.Server, id int, want api.Errno) {
	t.Helper()
	if got := s.Drop(id); got != want {
		t.Fatalf("Drop(%d): %d, want %d", id, got, want)
	}
}

// rich is a server of which much is to be told: blocks, times, known writes that were OK and such that were not.
func rich(t *testing.T) *store.Server {
	t.Helper()
	s := serverOf(t, block(0, 1, ""), block(5, 4, "a"), block(255, 1<<40, full))
	for from, m := range []struct {
		seq    int
		b      api.Block
		status api.Errno
	}{
		{5, block(6, 2, "b"), api.OK},
		{0, block(5, 4, "a"), api.OK},
		{7, block(5, 0, "a"), api.ErrArg},
		{8, block(9, 1, ""), api.ErrFull},
		{1 << 40, block(255, 1, ""), api.ErrOld},
	} {
		wantAnswer(t, s, writeOf(from, 3, m.seq, m.b), 10, 3, m.status, "")
	}
	wantDrop(t, s, 6, api.OK)
	wantAnswer(t, s, timeOf(4, 0), 0, 3, api.OK, "")
	return s
}

// asked is what a server answers to each of many messages.
func asked(s *store.Server) []any {
	var all []any
	say := func(m api.Msg, now int) {
		a, is := s.Handle(m, now)
		all = append(all, a, is, s.Calls(), s.Dead())
	}
	for _, at := range []int{math.MinInt, -1, 0, 1, 10, 11} {
		for from := range 8 {
			for _, seq := range []int{0, 1, 4, 5, 6, 7, 8, 9, 1<<40 - 1, 1 << 40} {
				say(writeOf(from, 3, seq, block(5, 4+seq, "c")), at)
				say(readOf(3, 5), at)
			}
		}
	}
	for off := range 257 {
		say(readOf(3, off), 0)
	}
	for n := range 5 {
		say(epochOf(n), 0)
		say(readOf(n, 5), 0)
	}
	return append(all, listed(s)...)
}

// listed is what a server tells of its blocks, now and behind a crash.
func listed(s *store.Server) []any {
	all := []any{len(s.List())}
	for _, b := range s.List() {
		all = append(all, b)
	}
	s.Crash(0)
	s.Power()
	for _, b := range s.List() {
		all = append(all, b)
	}
	return all
}

// wantNoTrace fails, unless a server to which something was done tells just what one tells to which it was not.
func wantNoTrace(t *testing.T, what string, made func(t *testing.T) *store.Server, do func(s *store.Server)) {
	t.Helper()
	plain, done := made(t), made(t)
	do(done)
	want, got := asked(plain), asked(done)
	if !slices.Equal(got, want) {
		for i := range min(len(got), len(want)) {
			if got[i] != want[i] {
				t.Fatalf("%s: %+v, want %+v", what, got[i], want[i])
			}
		}
		t.Fatalf("%s: %d answers, want %d", what, len(got), len(want))
	}
}
