package bag_test

import (
	"math"
	"math/rand"
	"slices"
	"testing"

	"weirkeep/api"
	"weirkeep/bag"
	"weirkeep/wire"
)

// held is a bag, and beside it the plain list that it is held against.
type held struct {
	t      *testing.T
	random *rand.Rand
	bag    *bag.Bag
	list   []api.Msg
	sent   int
	room   map[int]int // by Seq: how often it was sent and doubled, less how often it went
}

func (h *held) want(what string, got, want any) {
	h.t.Helper()
	if got != want {
		h.t.Fatalf("%s: %#v, want %#v", what, got, want)
	}
}

// place is one that there is, mostly, or one that there is not.
func (h *held) place() int {
	switch h.random.Intn(8) {
	case 0:
		return h.random.Intn(140) - 70
	case 1:
		return []int{-1, len(h.list), math.MaxInt, math.MinInt}[h.random.Intn(4)]
	}
	return h.random.Intn(max(len(h.list), 1))
}

// node is one that there is, mostly.
func (h *held) node() int { return h.random.Intn(10) - 1 }

func (h *held) inside(i int) bool { return i >= 0 && i < len(h.list) }

// add is the plain list's one more, if there is room.
func (h *held) add(m api.Msg) api.Errno {
	if len(h.list) >= 64 {
		return api.ErrFull
	}
	h.list = append(h.list, m)
	h.room[m.Seq]++
	return api.OK
}

// remove is the plain list's one less.
func (h *held) remove(i int) api.Msg {
	m := h.list[i]
	var rest []api.Msg
	for j, other := range h.list {
		if j != i {
			rest = append(rest, other)
		}
	}
	h.list = rest
	h.room[m.Seq]--
	return m
}

func (h *held) send() {
	h.sent++
	m := api.Msg{Kind: h.random.Intn(256), From: h.node(), To: h.node(), Seq: h.sent, Data: "abc"[:h.random.Intn(4)]}
	want := wire.Check(m)
	if want == api.OK {
		want = h.add(m)
	}
	h.want("Send", h.bag.Send(m), want)
}

func (h *held) take() {
	i := h.place()
	m, e := h.bag.Take(i)
	if !h.inside(i) {
		h.want("Take", m, api.Msg{})
		h.want("Take", e, api.ErrNone)
		return
	}
	h.want("Take", m, h.remove(i))
	h.want("Take", e, api.OK)
	if h.room[m.Seq] < 0 {
		h.t.Fatalf("message %d was taken more often than it was there", m.Seq)
	}
}

func (h *held) drop() {
	i := h.place()
	want := api.ErrNone
	if h.inside(i) {
		h.remove(i)
		want = api.OK
	}
	h.want("Drop", h.bag.Drop(i), want)
}

func (h *held) twice() {
	i := h.place()
	want := api.ErrNone
	if h.inside(i) {
		want = h.add(h.list[i])
	}
	h.want("Twice", h.bag.Twice(i), want)
}

func (h *held) late() {
	i := h.place()
	want := api.ErrNone
	if h.inside(i) {
		want = h.add(h.remove(i))
	}
	h.want("Late", h.bag.Late(i), want)
}

func (h *held) tellFor() {
	node := h.node()
	if got, want := h.bag.For(node), saidFor(h.list, node); !slices.Equal(got, want) {
		h.t.Fatalf("For(%d): %d, want %d", node, got, want)
	}
}

func (h *held) cut() {
	node := h.node()
	left, gone := saidCut(h.list, node)
	for _, m := range h.list {
		if m.From == node || m.To == node {
			h.room[m.Seq]--
		}
	}
	h.list = left
	h.want("Cut", h.bag.Cut(node), gone)
}

// counted fails, unless each message is there as often as it was sent and doubled, less what went.
func (h *held) counted() {
	h.t.Helper()
	count := map[int]int{}
	for _, m := range h.bag.List() {
		count[m.Seq]++
	}
	for seq, n := range h.room {
		if count[seq] != n {
			h.t.Fatalf("message %d is there %d times, want %d", seq, count[seq], n)
		}
	}
}

// P4.1 to P4.4: long rows of calls of all kinds, of which some fill the bag and some empty it, held against a plain list.
func TestRows(t *testing.T) {
	full, empty := 0, 0
	for seed := range 60 {
		h := &held{t: t, random: rand.New(rand.NewSource(int64(seed))), bag: bag.New(), room: map[int]int{}}
		calls := []func(){h.send, h.send, h.take, h.drop, h.twice, h.late, h.tellFor}
		switch seed % 3 {
		case 0:
			calls = append(calls, h.send, h.send, h.send, h.twice, h.late)
		case 1:
			calls = append(calls, h.cut)
		}
		for range 1500 {
			calls[h.random.Intn(len(calls))]()
			if h.random.Intn(200) == 0 {
				h.cut()
			}
			wantList(t, "a row", h.bag, h.list)
			h.counted()
			if len(h.list) == 64 {
				full++
			} else if len(h.list) == 0 {
				empty++
			}
		}
	}
	if full < 1000 || empty < 1000 {
		t.Errorf("full %d times, empty %d times: the rows are too much alike", full, empty)
	}
}

// later are rows of calls behind which what was told ahead of them must be as it was.
func later() []func(b *bag.Bag) {
	return []func(b *bag.Bag){
		func(b *bag.Bag) { b.Send(numbered(99)) },
		func(b *bag.Bag) { b.Take(0) },
		func(b *bag.Bag) { b.Drop(1) },
		func(b *bag.Bag) { b.Twice(0) },
		func(b *bag.Bag) { b.Late(0) },
		func(b *bag.Bag) { b.Cut(0) },
		func(b *bag.Bag) { b.Drop(0); b.Send(numbered(99)); b.Send(numbered(98)) },
		func(b *bag.Bag) {
			for node := range 8 {
				b.Cut(node)
			}
			for range 64 {
				b.Send(numbered(97))
			}
		},
	}
}

// R3: what List and For told is not changed by later calls.
func TestToldStays(t *testing.T) {
	for _, length := range lengths() {
		for k, calls := range later() {
			b, list := filled(t, length)
			told := b.List()
			var places, want [8][]int
			for node := range 8 {
				places[node], want[node] = b.For(node), saidFor(list, node)
			}
			calls(b)
			for node := range 8 {
				b.For(node)
				if !slices.Equal(places[node], want[node]) {
					t.Errorf("calls %d: For(%d) is %d, and was %d", k, node, places[node], want[node])
				}
			}
			if !slices.Equal(told, list) {
				t.Errorf("calls %d: the list of %d is another one", k, length)
			}
		}
	}
}

// R3: the bag is not changed by changing what was told, its spare room too, nor is another answer.
func TestToldIsNew(t *testing.T) {
	for _, length := range lengths() {
		for k, calls := range later() {
			b, list := filled(t, length)
			same, _ := filled(t, length)
			first, second := b.List(), b.List()
			places, others := b.For(0), b.For(0)
			spoil(first, places)
			wantList(t, "spoilt", b, list)
			if !slices.Equal(second, list) || !slices.Equal(others, saidFor(list, 0)) {
				t.Errorf("another answer of %d is spoilt", length)
			}
			calls(b)
			calls(same)
			behind := b.List()
			spoil(first, places)
			spoil(second, others)
			if want := same.List(); !slices.Equal(behind, want) || !slices.Equal(b.List(), want) {
				t.Errorf("calls %d: the bag of %d is spoilt", k, length)
			}
		}
	}
}

// spoil fills both lists, with their spare room, with what nobody sent.
func spoil(list []api.Msg, places []int) {
	list, places = list[:cap(list)], places[:cap(places)]
	for i := range list {
		list[i] = api.Msg{Kind: 77, Seq: 7777, Data: "spoilt"}
	}
	for i := range places {
		places[i] = 77
	}
}

// R5: what is refused, and what only tells, leaves no trace in the answers behind it.
func TestNoTrace(t *testing.T) {
	plain, list := filled(t, 64)
	asked, _ := filled(t, 64)
	for _, x := range refused() {
		asked.Send(x.m)
	}
	for _, c := range placeCalls() {
		for _, i := range outside(64) {
			c.do(asked, i)
		}
	}
	for _, node := range noNodes() {
		asked.For(node)
		asked.Cut(node)
	}
	asked.Send(numbered(99))
	asked.Twice(0)
	wantList(t, "asked", asked, list)
	for i := range 64 {
		for _, b := range []*bag.Bag{plain, asked} {
			if e := b.Late(i / 2); e != api.OK {
				t.Fatalf("Late(%d): %d", i/2, e)
			}
		}
		wantList(t, "moved", asked, plain.List())
	}
}
