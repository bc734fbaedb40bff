package quorum_test

import (
	"math/rand"
	"strconv"
	"testing"

	"weirkeep/api"
	"weirkeep/quorum"
)

// row is calls of all kinds on a group that is held against a plain one.
type row struct {
	*held
	random *rand.Rand
	chosen map[int]string // what was told to be chosen
}

// node is mostly one that there is.
func (r *row) node() int {
	n := r.group.Len()
	if r.random.Intn(20) == 0 {
		wrong := wrongNodes(n)
		return wrong[r.random.Intn(len(wrong))]
	}
	return r.random.Intn(n)
}

func (r *row) value() string {
	switch r.random.Intn(30) {
	case 0:
		return long(1023 + r.random.Intn(2))
	case 1:
		return long(1025 + r.random.Intn(100))
	case 2:
		return ""
	}
	return strconv.Itoa(r.random.Intn(1000))
}

// loss is nothing, a few messages, many, or nearly all.
func (r *row) loss() uint64 {
	a, b, c := r.random.Uint64(), r.random.Uint64(), r.random.Uint64()
	switch r.random.Intn(6) {
	case 0, 1:
		return 0
	case 2:
		return a & b & c
	case 3:
		return a & b
	case 4:
		return a
	}
	return a & b & 0x3333333333333333 // of the first round alone
}

func (r *row) proposeOne() {
	e := r.propose(r.node(), r.value(), r.loss())
	r.seen["propose "+strconv.Itoa(int(e))]++
}

func (r *row) learn() {
	node, of := r.node(), r.node()
	by, e := r.plain.learn(node, of)
	wantLearn(r.t, r.group, node, of, by, e)
	r.seen["learn "+strconv.Itoa(int(e))]++
	if by > 0 {
		r.seen["learned"]++
	}
}

// power lets a node be down, or up: more often up.
func (r *row) power() {
	node, down := r.node(), r.random.Intn(5) < 2
	call, what := r.group.Up, "up "
	if down {
		call, what = r.group.Down, "down "
	}
	want := r.plain.power(node, down)
	if e := call(node); e != want {
		r.t.Fatalf("%s%d: %d, want %d", what, node, e, want)
	}
	r.seen[what+strconv.Itoa(int(want))]++
}

// proposeTwice lets all be up, and nothing be lost: a node's second Propose at the latest adds to its log.
func (r *row) proposeTwice() {
	for i := range r.group.Len() {
		r.plain.power(i, false)
		wantUp(r.t, r.group, i)
	}
	node := r.random.Intn(r.group.Len())
	before := len(r.group.Log(node))
	if r.propose(node, "twice", 0) != api.OK {
		r.seen["tried twice"]++
		if e := r.propose(node, "twice", 0); e != api.OK {
			r.t.Fatalf("the second Propose of node %d: %d", node, e)
		}
	}
	if after := len(r.group.Log(node)); after != before+1 {
		r.t.Fatalf("log %d has %d entries, had %d", node, after, before)
	}
}

// look fails, unless what was told to be chosen still is.
func (r *row) look() {
	for slot := range 4 + len(r.plain.votes)/r.group.Len() {
		value, ok := r.group.Chosen(slot)
		if old, was := r.chosen[slot]; was && (!ok || value != old) {
			r.t.Fatalf("slot %d: %.20q, %t, is chosen, and %.20q was", slot, value, ok, old)
		}
		if ok {
			r.chosen[slot] = value
		}
	}
}

// P11.1 to P11.5: long rows of calls of all kinds, held against a plain group; what follows holds behind each call.
func TestRows(t *testing.T) {
	seen := map[string]int{}
	for seed := range 300 {
		n := 1 + seed%5
		r := &row{held: newHeld(t, n), random: rand.New(rand.NewSource(int64(seed))), chosen: map[int]string{}}
		r.seen = seen
		calls := []func(){r.proposeOne, r.proposeOne, r.proposeOne, r.proposeOne, r.proposeOne, r.proposeOne, r.learn, r.power, r.power}
		for i := range 150 {
			if i%25 == 24 {
				r.proposeTwice()
			}
			calls[r.random.Intn(len(calls))]()
			wantLogs(t, r.group, r.plain.logs...)
			r.look()
		}
		r.wantSame()
		r.wantFollows()
	}
	for what, least := range map[string]int{
		"propose 0": 2000, "propose 3": 300, "propose 11": 200, "propose 70": 1000, "propose 110": 3000, "another value": 500,
		"learn 0": 500, "learn 3": 100, "learn 70": 500, "learned": 200, "down 0": 1000, "down 3": 50, "up 0": 1000, "up 3": 50, "tried twice": 100,
	} {
		if seen[what] < least {
			t.Errorf("%s: %d times: the rows are too much alike", what, seen[what])
		}
	}
}

// R5: what is refused ahead of the rounds, and what only tells, leaves no trace in the answers behind it; nor does another group.
func TestNoTrace(t *testing.T) {
	random := rand.New(rand.NewSource(13))
	plain, asked, other := quorum.New(3), quorum.New(3), quorum.New(3)
	for i := range 300 {
		other.Propose(random.Intn(3), "other", random.Uint64()&random.Uint64())
		for _, node := range wrongNodes(3) {
			asked.Propose(node, "x", 0)
			asked.Learn(node, 0)
			asked.Learn(0, node)
			asked.Down(node)
			asked.Up(node)
			asked.Log(node)
		}
		node := random.Intn(3)
		asked.Propose(node, long(1025), 0)
		asked.Down(node)
		asked.Propose(node, "x", 0)
		asked.Learn(node, (node+1)%3)
		asked.Learn((node+1)%3, node)
		asked.Up(node)
		asked.Learn(node, node)
		asked.Chosen(i)
		value, loss := long(i), random.Uint64()&random.Uint64()&random.Uint64()
		slot, want, e := plain.Propose(node, value, loss)
		if at, got, f := asked.Propose(node, value, loss); at != slot || got != want || f != e {
			t.Fatalf("call %d: %d, %.20q, %d, want %d, %.20q, %d", i, at, got, f, slot, want, e)
		}
		wantLogs(t, asked, plain.Log(0), plain.Log(1), plain.Log(2))
	}
	if len(plain.Log(0)) < 20 || len(plain.Log(1)) < 20 {
		t.Errorf("the logs have %d and %d entries", len(plain.Log(0)), len(plain.Log(1)))
	}
}
