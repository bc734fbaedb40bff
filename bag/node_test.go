package bag_test

import (
	"math"
	"slices"
	"strconv"
	"testing"

	"weirkeep/api"
	"weirkeep/bag"
)

// noNodes are numbers that are no node, some of which would be one if they were cut to fewer bits.
func noNodes() []int {
	return []int{-1, -2, -7, -8, 8, 9, 15, 16, 64, 255, 256, 257, 1 << 16, 1 << 32, 1<<32 + 1, math.MaxInt, math.MinInt}
}

// between is a message from one node to another.
func between(n, from, to int) api.Msg {
	return api.Msg{Kind: n, From: from, To: to, Seq: n, Data: "m" + strconv.Itoa(n)}
}

// someWays is a list of messages between nodes 0 to 3 and 7, such that nothing goes to 4, 5 and 6, and only node 5 of these sends.
func someWays() []api.Msg {
	var list []api.Msg
	for n, ends := range [][2]int{{0, 1}, {1, 0}, {2, 1}, {1, 1}, {5, 3}, {0, 7}, {7, 0}, {7, 7}, {3, 2}, {1, 2}, {0, 1}, {2, 2}} {
		list = append(list, between(n, ends[0], ends[1]))
	}
	return list
}

// allWays is a full bag's list: each node to each node, itself too.
func allWays() []api.Msg {
	var list []api.Msg
	for n := range 64 {
		list = append(list, between(n, n*5%8, (n/8+n)%8))
	}
	return list
}

// saidFor is For, as the document says it.
func saidFor(list []api.Msg, node int) []int {
	var places []int
	for i := range list {
		if list[i].To == node {
			places = append(places, i)
		}
	}
	return places
}

// saidCut is what Cut leaves, and its answer, as the document says them.
func saidCut(list []api.Msg, node int) ([]api.Msg, int) {
	var left []api.Msg
	gone := 0
	for _, m := range list {
		if m.To == node || m.From == node {
			gone++
		} else {
			left = append(left, m)
		}
	}
	return left, gone
}

// P4.3: places that are written out: of some messages, of none, of all.
func TestForKnown(t *testing.T) {
	b := bagOf(t, someWays()...)
	for node, want := range [][]int{{1, 6}, {0, 2, 3, 10}, {8, 9, 11}, {4}, {}, {}, {}, {5, 7}} {
		if got := b.For(node); !slices.Equal(got, want) {
			t.Errorf("For(%d): %d, want %d", node, got, want)
		}
	}
	same := bagOf(t, between(1, 0, 4), between(1, 4, 4), between(2, 7, 4))
	for node := range 8 {
		want := []int(nil)
		if node == 4 {
			want = []int{0, 1, 2}
		}
		if got := same.For(node); !slices.Equal(got, want) {
			t.Errorf("all to 4: For(%d): %d, want %d", node, got, want)
		}
	}
}

// P4.3: For of each node, in bags of all lengths; it changes nothing.
func TestFor(t *testing.T) {
	for _, length := range lengths() {
		list := allWays()[:length]
		b := bagOf(t, list...)
		for node := range 8 {
			if got, want := b.For(node), saidFor(list, node); !slices.Equal(got, want) {
				t.Errorf("For(%d) of %d: %d, want %d", node, length, got, want)
			}
			wantList(t, "For", b, list)
		}
	}
}

// P4.3: to what is no node nothing is on its way, and nothing is cut.
func TestNoNode(t *testing.T) {
	for _, list := range [][]api.Msg{nil, {{}}, someWays(), allWays()} {
		b := bagOf(t, list...)
		for _, node := range noNodes() {
			if got := b.For(node); len(got) != 0 {
				t.Errorf("For(%d): %d", node, got)
			}
			if gone := b.Cut(node); gone != 0 {
				t.Errorf("Cut(%d): %d", node, gone)
			}
			wantList(t, "no node", b, list)
		}
	}
}

// P4.3: For tells the places as they are now, behind calls that move them.
func TestForMoves(t *testing.T) {
	b := bagOf(t, between(0, 0, 1), between(1, 0, 2), between(2, 0, 1), between(3, 0, 2))
	for _, step := range []struct {
		name string
		do   func() api.Errno
		want []int
	}{
		{"nothing", func() api.Errno { return api.OK }, []int{0, 2}},
		{"Late", func() api.Errno { return b.Late(0) }, []int{1, 3}},
		{"Drop", func() api.Errno { return b.Drop(0) }, []int{0, 2}},
		{"Twice", func() api.Errno { return b.Twice(0) }, []int{0, 2, 3}},
		{"Send", func() api.Errno { return b.Send(between(4, 1, 3)) }, []int{0, 2, 3}},
		{"Send to it", func() api.Errno { return b.Send(between(5, 3, 1)) }, []int{0, 2, 3, 5}},
		{"Take", func() api.Errno { _, e := b.Take(2); return e }, []int{0, 2, 4}},
		{"Cut another one", func() api.Errno { b.Cut(2); return api.OK }, []int{0, 1, 3}},
		{"Cut", func() api.Errno { b.Cut(1); return api.OK }, nil},
	} {
		if e := step.do(); e != api.OK {
			t.Errorf("%s: %d", step.name, e)
		}
		if got := b.For(1); !slices.Equal(got, step.want) {
			t.Errorf("%s: %d, want %d", step.name, got, step.want)
		}
	}
}

// P4.3: the sender alone, the receiver alone, both at once (one message, counted once), and neither.
func TestCutKinds(t *testing.T) {
	for _, x := range []struct {
		name           string
		from, to, gone int
	}{
		{"the sender", 3, 4, 1},
		{"the receiver", 4, 3, 1},
		{"both", 3, 3, 1},
		{"neither", 4, 5, 0},
		{"neither, to itself", 4, 4, 0},
	} {
		m := between(1, x.from, x.to)
		b := bagOf(t, m)
		if gone := b.Cut(3); gone != x.gone {
			t.Errorf("%s: %d", x.name, gone)
		}
		wantList(t, x.name, b, []api.Msg{m}[x.gone:])
		wantAround(t, x.name, m, x.gone)
	}
}

// wantAround fails, unless Cut(3) lets m go, or not, also where other messages stand around it, that stay in their order.
func wantAround(t *testing.T, name string, m api.Msg, gone int) {
	t.Helper()
	ahead, behind := between(7, 0, 1), between(8, 2, 0)
	want := []api.Msg{ahead, m, behind, m}
	if gone > 0 {
		want = []api.Msg{ahead, behind}
	}
	b := bagOf(t, ahead, m, behind, m)
	if got := b.Cut(3); got != 2*gone {
		t.Errorf("%s, twice among others: %d", name, got)
	}
	wantList(t, name, b, want)
}

// P4.3: numbers that are written out.
func TestCutKnown(t *testing.T) {
	list := someWays()
	for node, left := range [][]int{
		{2, 3, 4, 7, 8, 9, 11},
		{4, 5, 6, 7, 8, 11},
		{0, 1, 3, 4, 5, 6, 7, 10},
		{0, 1, 2, 3, 5, 6, 7, 9, 10, 11},
		{0, 1, 2, 3, 4, 5, 6, 7, 8, 9, 10, 11},
		{0, 1, 2, 3, 5, 6, 7, 8, 9, 10, 11},
		{0, 1, 2, 3, 4, 5, 6, 7, 8, 9, 10, 11},
		{0, 1, 2, 3, 4, 8, 9, 10, 11},
	} {
		b := bagOf(t, list...)
		if gone := b.Cut(node); gone != len(list)-len(left) {
			t.Errorf("Cut(%d): %d, want %d", node, gone, len(list)-len(left))
		}
		var want []api.Msg
		for _, i := range left {
			want = append(want, list[i])
		}
		wantList(t, "Cut", b, want)
	}
}

// P4.3: Cut of each node, in bags of all lengths, and once more, when nothing is left of it.
func TestCut(t *testing.T) {
	for _, length := range lengths() {
		for node := range 8 {
			list := allWays()[:length]
			b := bagOf(t, list...)
			left, want := saidCut(list, node)
			for _, gone := range []int{want, 0} {
				if got := b.Cut(node); got != gone {
					t.Errorf("Cut(%d) of %d: %d, want %d", node, length, got, gone)
				}
				wantList(t, "Cut", b, left)
			}
			if places := b.For(node); len(places) != 0 {
				t.Errorf("For(%d) behind Cut: %d", node, places)
			}
		}
	}
}

// P4.3: where all go there is room for 64 again; where none go, for none.
func TestCutRoom(t *testing.T) {
	b := bag.New()
	for range 2 {
		for n := range 64 {
			if e := b.Send(between(n, 1, 6)); e != api.OK {
				t.Fatalf("message %d: %d", n, e)
			}
		}
		if gone := b.Cut(2); gone != 0 || b.Send(between(0, 1, 6)) != api.ErrFull {
			t.Errorf("Cut of a node that has none: %d", gone)
		}
		if gone := b.Cut(6); gone != 64 {
			t.Errorf("Cut of a node that has all: %d", gone)
		}
		wantList(t, "all cut", b, nil)
	}
}
