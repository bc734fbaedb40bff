package bag_test

import (
	"math"
	"slices"
	"strconv"
	"strings"
	"testing"

	"weirkeep/api"
	"weirkeep/bag"
	"weirkeep/wire"
)

// numbered is a message that no other number has; wire.Check takes it.
func numbered(n int) api.Msg {
	return api.Msg{Kind: n % 256, From: n % 8, To: n / 3 % 8, Epoch: n + 1, Seq: n, Off: n % 257, Len: n / 2 % 257, Data: "message " + strconv.Itoa(n)}
}

// filled is a bag of so many messages, each another one, and the list of them.
func filled(t *testing.T, length int) (*bag.Bag, []api.Msg) {
	t.Helper()
	var list []api.Msg
	for n := range length {
		list = append(list, numbered(n))
	}
	return bagOf(t, list...), list
}

// bagOf is a bag to which these were sent.
func bagOf(t *testing.T, list ...api.Msg) *bag.Bag {
	t.Helper()
	b := bag.New()
	for _, m := range list {
		if e := b.Send(m); e != api.OK {
			t.Fatalf("Send(%#v): %d", m, e)
		}
	}
	return b
}

// wantList fails, unless just these messages are in the bag, in this order.
func wantList(t *testing.T, what string, b *bag.Bag, want []api.Msg) {
	t.Helper()
	got := b.List()
	for i := range min(len(got), len(want)) {
		if got[i] != want[i] {
			t.Fatalf("%s: at %d is %#v, want %#v", what, i, got[i], want[i])
		}
	}
	if len(got) != len(want) {
		t.Fatalf("%s: %d messages, want %d", what, len(got), len(want))
	}
}

// lengths are those of bags that are empty, short, nearly full and full.
func lengths() []int { return []int{0, 1, 2, 3, 4, 5, 8, 32, 62, 63, 64} }

// outside are places that a bag of that length has not: just outside, far outside, and such as would be inside if they were cut to fewer bits, or counted from the end.
func outside(length int) []int {
	return []int{-1, -2, -length, -length - 1, -64, -65, math.MinInt, math.MinInt32, -1 << 32, length, length + 1, 64, 65, 1 << 8, 1 << 16, 1 << 32, 1<<32 + 1, math.MaxInt32, math.MaxInt}
}

// refusedMsg is a message that wire.Check does not take, and its error.
type refusedMsg struct {
	name string
	m    api.Msg
	e    api.Errno
}

func refused() []refusedMsg {
	long := strings.Repeat("x", 1025)
	return []refusedMsg{
		{"Kind", api.Msg{Kind: -1}, api.ErrArg},
		{"Kind", api.Msg{Kind: 256}, api.ErrArg},
		{"From", api.Msg{From: -1}, api.ErrArg},
		{"From", api.Msg{From: 8}, api.ErrArg},
		{"To", api.Msg{To: -1}, api.ErrArg},
		{"To", api.Msg{To: 8}, api.ErrArg},
		{"Epoch", api.Msg{Epoch: -1}, api.ErrArg},
		{"Epoch", api.Msg{Epoch: 1<<40 + 1}, api.ErrArg},
		{"Seq", api.Msg{Seq: -1}, api.ErrArg},
		{"Seq", api.Msg{Seq: 1<<40 + 1}, api.ErrArg},
		{"Off", api.Msg{Off: -1}, api.ErrArg},
		{"Off", api.Msg{Off: 257}, api.ErrArg},
		{"Len", api.Msg{Len: -1}, api.ErrArg},
		{"Len", api.Msg{Len: 257}, api.ErrArg},
		{"far outside", api.Msg{To: math.MaxInt, From: math.MinInt}, api.ErrArg},
		{"Data", api.Msg{Data: long}, api.ErrLong},
		{"Data", api.Msg{Kind: 255, From: 7, To: 7, Data: strings.Repeat("é", 513)}, api.ErrLong},
		{"To and Data", api.Msg{To: 8, Data: long}, api.ErrArg},
	}
}

// taken are messages at the edges of what wire.Check takes, two of them alike.
func taken() []api.Msg {
	return []api.Msg{
		{},
		{Kind: 255, From: 7, To: 7, Epoch: 1 << 40, Seq: 1 << 40, Off: 256, Len: 256, Data: strings.Repeat("\xff", 1024)},
		{Kind: 1, From: 2, To: 3, Epoch: 4, Seq: 5, Off: 6, Len: 7, Data: "eight"},
		{},
		{Data: "\x00"},
		{From: 7},
		{To: 7},
		{Data: strings.Repeat("y", 1024)},
	}
}

// P4.1: a new bag is empty, and no other bag's messages are in it.
func TestNew(t *testing.T) {
	wantList(t, "new", bag.New(), nil)
	first, list := filled(t, 3)
	second := bag.New()
	wantList(t, "new, beside another one", second, nil)
	second.Send(numbered(9))
	first.Drop(0)
	wantList(t, "the first", first, list[1:])
	wantList(t, "the second", second, []api.Msg{numbered(9)})
}

// P4.1: what is sent is the last one, as it was sent, also where it is there already.
func TestSend(t *testing.T) {
	b := bag.New()
	var want []api.Msg
	for _, m := range taken() {
		if e := b.Send(m); e != api.OK {
			t.Errorf("Send(%#v): %d", m, e)
		}
		want = append(want, m)
		wantList(t, "sent", b, want)
	}
}

// P4.1: 64 messages are taken, and not one more, till one is gone.
func TestSendFull(t *testing.T) {
	b := bag.New()
	var want []api.Msg
	for n := range 70 {
		e := b.Send(numbered(n))
		if n < 64 {
			want = append(want, numbered(n))
		}
		if (e == api.OK) != (n < 64) || n >= 64 && e != api.ErrFull {
			t.Errorf("message %d: %d", n, e)
		}
		wantList(t, "sent", b, want)
	}
	b.Drop(20)
	if e := b.Send(numbered(70)); e != api.OK {
		t.Errorf("where one is gone: %d", e)
	}
	if e := b.Send(numbered(71)); e != api.ErrFull {
		t.Errorf("full again: %d", e)
	}
	wantList(t, "full again", b, append(slices.Delete(want, 20, 21), numbered(70)))
}

// P4.1: wire.Check's error, in bags of all lengths: in a full one it stands ahead of ErrFull. Nothing changes.
func TestSendRefused(t *testing.T) {
	for _, length := range lengths() {
		b, list := filled(t, length)
		for _, x := range refused() {
			if e := wire.Check(x.m); e != x.e {
				t.Fatalf("%s: Check: %d, want %d", x.name, e, x.e)
			}
			if e := b.Send(x.m); e != x.e {
				t.Errorf("%s, of %d: %d, want %d", x.name, length, e, x.e)
			}
			wantList(t, x.name, b, list)
		}
	}
}

// placeCall is a call on a place: itself, and what the document says of a place that there is.
type placeCall struct {
	name string
	do   func(b *bag.Bag, i int) (api.Msg, api.Errno)
	said func(list []api.Msg, i int) (told api.Msg, e api.Errno, behind []api.Msg)
}

func placeCalls() []placeCall {
	without := func(list []api.Msg, i int) []api.Msg {
		return append(slices.Clone(list[:i]), list[i+1:]...)
	}
	return []placeCall{
		{"Take",
			func(b *bag.Bag, i int) (api.Msg, api.Errno) { return b.Take(i) },
			func(list []api.Msg, i int) (api.Msg, api.Errno, []api.Msg) { return list[i], 0, without(list, i) }},
		{"Drop",
			func(b *bag.Bag, i int) (api.Msg, api.Errno) { return api.Msg{}, b.Drop(i) },
			func(list []api.Msg, i int) (api.Msg, api.Errno, []api.Msg) { return api.Msg{}, 0, without(list, i) }},
		{"Twice",
			func(b *bag.Bag, i int) (api.Msg, api.Errno) { return api.Msg{}, b.Twice(i) },
			func(list []api.Msg, i int) (api.Msg, api.Errno, []api.Msg) {
				if len(list) == 64 {
					return api.Msg{}, 2, list
				}
				return api.Msg{}, 0, append(slices.Clone(list), list[i])
			}},
		{"Late",
			func(b *bag.Bag, i int) (api.Msg, api.Errno) { return api.Msg{}, b.Late(i) },
			func(list []api.Msg, i int) (api.Msg, api.Errno, []api.Msg) {
				return api.Msg{}, 0, append(without(list, i), list[i])
			}},
	}
}

// P4.2: each place of bags of all lengths: the answer, and the whole list behind it.
func TestPlaces(t *testing.T) {
	for _, length := range lengths() {
		for _, c := range placeCalls() {
			for i := range length {
				b, list := filled(t, length)
				m, e := c.do(b, i)
				wantM, wantE, behind := c.said(list, i)
				what := c.name + " " + strconv.Itoa(i) + " of " + strconv.Itoa(length)
				if m != wantM || e != wantE {
					t.Errorf("%s: %v, %d, want %v, %d", what, m, e, wantM, wantE)
				}
				wantList(t, what, b, behind)
			}
		}
	}
}

// P4.2: where there is no such place: ErrNone, in a full bag too, nothing beside it, and nothing changes.
func TestNoPlace(t *testing.T) {
	for _, length := range lengths() {
		b, list := filled(t, length)
		for _, c := range placeCalls() {
			for _, i := range outside(length) {
				if i >= 0 && i < length {
					continue
				}
				if m, e := c.do(b, i); m != (api.Msg{}) || e != api.ErrNone {
					t.Errorf("%s %d of %d: %v, %d", c.name, i, length, m, e)
				}
				wantList(t, c.name, b, list)
			}
		}
	}
}

// P4.2: one message below a full bag there is room for one, and then for none.
func TestTwiceUpToFull(t *testing.T) {
	b, list := filled(t, 63)
	if e := b.Twice(10); e != api.OK {
		t.Errorf("one below full: %d", e)
	}
	list = append(list, list[10])
	wantList(t, "one below full", b, list)
	for i := range 64 {
		if e := b.Twice(i); e != api.ErrFull {
			t.Errorf("full, at %d: %d", i, e)
		}
	}
	if e := b.Twice(64); e != api.ErrNone {
		t.Errorf("full, at 64: %d", e)
	}
	wantList(t, "full", b, list)
	b.Take(63)
	if e := b.Twice(62); e != api.OK {
		t.Errorf("where one is gone: %d", e)
	}
	wantList(t, "full again", b, append(list[:63], list[62]))
}

// P4.2: of messages that are alike the one at the place goes, and those beside it stay.
func TestAlike(t *testing.T) {
	one, other := numbered(1), numbered(2)
	for i, want := range [][]api.Msg{{other, one, one}, {one, one, one}, {one, other, one}, {one, other, one}} {
		b := bagOf(t, one, other, one, one)
		if e := b.Drop(i); e != api.OK {
			t.Errorf("Drop(%d): %d", i, e)
		}
		wantList(t, "Drop "+strconv.Itoa(i), b, want)
	}
	b := bagOf(t, one, other, one)
	b.Late(0)
	wantList(t, "Late", b, []api.Msg{other, one, one})
}

// The document's example.
func TestExample(t *testing.T) {
	first, second, third := numbered(1), numbered(2), numbered(3)
	b := bagOf(t, first, second, third)
	if late, twice := b.Late(0), b.Twice(1); late != api.OK || twice != api.OK {
		t.Errorf("%d, %d", late, twice)
	}
	wantList(t, "the example", b, []api.Msg{second, third, first, third})
}

// P4.2: a bag is emptied from both ends and from its middle, and filled again.
func TestEmptied(t *testing.T) {
	for _, from := range []func(length int) int{
		func(int) int { return 0 },
		func(length int) int { return length - 1 },
		func(length int) int { return length / 2 },
	} {
		b, list := filled(t, 64)
		for len(list) > 0 {
			i := from(len(list))
			if m, e := b.Take(i); m != list[i] || e != api.OK {
				t.Fatalf("Take(%d) of %d: %v, %d", i, len(list), m, e)
			}
			list = slices.Delete(list, i, i+1)
			wantList(t, "emptied", b, list)
		}
		if m, e := b.Take(0); m != (api.Msg{}) || e != api.ErrNone {
			t.Errorf("empty: %v, %d", m, e)
		}
		for n := range 64 {
			if e := b.Send(numbered(n)); e != api.OK {
				t.Fatalf("filled again, message %d: %d", n, e)
			}
		}
	}
}
