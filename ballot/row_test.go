package ballot_test

import (
	"math/rand"
	"slices"
	"strconv"
	"testing"

	"weirkeep/api"
	"weirkeep/ballot"
)

// held is an acceptor, and beside it what it promised and the plain list of votes that it is held against.
type held struct {
	t        *testing.T
	random   *rand.Rand
	acceptor *ballot.Acceptor
	promised int
	votes    []ballot.Vote // in the order in which they came
	seen     map[string]int
}

// list tells the votes of slots from from on, by slots.
func (h *held) list(from int) []ballot.Vote {
	var list []ballot.Vote
	for slot := range 4096 {
		for _, v := range h.votes {
			if v.Slot == slot && slot >= from {
				list = append(list, v)
			}
		}
	}
	return list
}

// number is mostly a ballot, mostly one that is near to what was promised.
func (h *held) number() int {
	switch h.random.Intn(12) {
	case 0:
		return wrongBallots()[h.random.Intn(len(wrongBallots()))]
	case 1:
		return 1 + h.random.Intn(1+h.promised)
	}
	return h.promised - 2 + h.random.Intn(6)
}

// slot is mostly one of few slots, among them the first and the last one.
func (h *held) slot() int {
	switch h.random.Intn(12) {
	case 0:
		return wrongSlots()[h.random.Intn(len(wrongSlots()))]
	case 1:
		return h.random.Intn(4096)
	}
	return []int{0, 1, 2, 255, 256, 257, 4094, 4095}[h.random.Intn(8)]
}

func (h *held) value() string {
	switch h.random.Intn(20) {
	case 0:
		return long(1023 + h.random.Intn(2))
	case 1:
		return long(1025 + h.random.Intn(100))
	}
	return long(h.random.Intn(30))
}

// saidBallot is the error that there is of a ballot, and promises it, if there is none.
func (h *held) saidBallot(b int, wrong api.Errno) api.Errno {
	switch {
	case wrong != api.OK:
		return wrong
	case b < h.promised:
		return api.ErrOld
	}
	h.promised = b
	return api.OK
}

func (h *held) prepare() {
	b, from, wrong := h.number(), h.slot(), api.OK
	if b < 1 || b > 1<<40 {
		wrong = api.ErrArg
	}
	e := h.saidBallot(b, wrong)
	if e == api.OK {
		wantPrepare(h.t, h.acceptor, b, from, h.list(from)...)
	} else {
		wantNoPrepare(h.t, h.acceptor, b, from, e)
	}
	h.seen["prepare "+strconv.Itoa(int(e))]++
}

func (h *held) accept() {
	v, wrong := vote(h.slot(), h.number(), h.value()), api.OK
	if v.Slot < 0 || v.Slot > 4095 || v.Ballot < 1 || v.Ballot > 1<<40 {
		wrong = api.ErrArg
	} else if len(v.Value) > 1024 {
		wrong = api.ErrLong
	}
	e := h.saidBallot(v.Ballot, wrong)
	if e == api.OK {
		size := len(h.votes)
		h.votes = slices.DeleteFunc(h.votes, func(w ballot.Vote) bool { return w.Slot == v.Slot })
		if len(h.votes) < size {
			h.seen["accept again"]++
		}
		h.votes = append(h.votes, v)
	}
	wantAccept(h.t, h.acceptor, v, e)
	h.seen["accept "+strconv.Itoa(int(e))]++
}

// load goes on with what is loaded of what is saved.
func (h *held) load() {
	h.acceptor = wantLoad(h.t, h.acceptor.Save(), h.promised, h.list(0)...)
	h.seen["load"]++
}

// spoil loads what is saved with a byte of it another one, which comes to nothing.
func (h *held) spoil() {
	text := h.acceptor.Save()
	wantNoLoad(h.t, "spoilt", other(text, h.random.Intn(len(text)), byte(1+h.random.Intn(255))))
}

// P10.1 to P10.5: long rows of calls of all kinds, with saves and loads between, held against a plain list; what is promised never falls.
func TestRows(t *testing.T) {
	seen := map[string]int{}
	for seed := range 40 {
		h := &held{t: t, random: rand.New(rand.NewSource(int64(seed))), acceptor: ballot.New(), seen: seen}
		if seed%4 == 3 {
			wantPrepare(t, h.acceptor, 1<<40-100, 0)
			h.promised = 1<<40 - 100
		}
		calls := []func(){h.accept, h.accept, h.accept, h.prepare, h.load, h.spoil}
		for range 300 {
			before := h.acceptor.Promised()
			calls[h.random.Intn(len(calls))]()
			if h.acceptor.Promised() < before {
				t.Fatalf("Promised is %d, was %d", h.acceptor.Promised(), before)
			}
			wantAcceptor(t, "a row", h.acceptor, h.promised, h.list(0)...)
		}
		if h.promised == 1<<40 {
			seen["the last ballot"]++
		}
	}
	for what, least := range map[string]int{"prepare 0": 500, "prepare 1": 100, "prepare 5": 100, "accept 0": 1000, "accept 1": 300, "accept 5": 300, "accept 11": 100, "accept again": 500, "load": 500, "the last ballot": 3} {
		if seen[what] < least {
			t.Errorf("%s: %d times: the rows are too much alike", what, seen[what])
		}
	}
}

// R5: what is refused, and what only tells, leaves no trace in the answers behind it.
func TestNoTrace(t *testing.T) {
	plain, asked := ballot.New(), ballot.New()
	for i := range 200 {
		asked.Prepare(0, 0)
		asked.Prepare(1<<40+1, 0)
		asked.Accept(vote(-1, 1<<40, ""))
		asked.Accept(vote(4096, 1<<40, ""))
		asked.Accept(vote(1, 1<<40+1, ""))
		asked.Accept(vote(1, 1<<40, long(1025)))
		asked.Prepare(i-1, 0) // i is what was promised last
		asked.Accept(vote(i%7, i-1, "old"))
		asked.Promised()
		asked.Votes()
		asked.Save()
		ballot.Load(asked.Save())
		for _, a := range []*ballot.Acceptor{plain, asked} {
			wantAccept(t, a, vote(i%5, i+1, long(i%9)), api.OK)
		}
		wantAcceptor(t, "asked", asked, plain.Promised(), plain.Votes()...)
	}
}
