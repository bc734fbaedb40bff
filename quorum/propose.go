package quorum

import (
	"strings"

	"weirkeep/api"
	"weirkeep/ballot"
)

// How many bits of loss each node has, and how many of them are of one round: a request and its answer.
const (
	bitsOfNode  = 4
	bitsOfRound = 2
)

// question is what each node is asked in a round of messages, and which of these are lost: of each node the lowest of its bits tells of the request, the next one of the answer.
type question struct {
	put  func(node int) ([]ballot.Vote, api.Errno)
	loss uint64
}

// answers are those that are heard: the votes told by each node that did what it was asked, and the highest ballot that any node had promised.
type answers struct {
	told     [][]ballot.Vote
	promised int
}

// Propose lets a value be agreed on for the slot behind a node's log; it may be another one than was handed in.
func (g *Group) Propose(node int, value string, loss uint64) (int, string, api.Errno) {
	if e := g.refusal(node, value); e != api.OK {
		return 0, "", e
	}
	n := g.nodes[node]
	b, e := ballot.Number(n.round, node)
	if e != api.OK {
		return 0, "", e
	}
	highest := b
	defer func() {
		round, _ := ballot.Owner(highest)
		n.round = round + 1
	}()

	slot := len(n.log)
	prepared := g.ask(question{loss: loss, put: func(i int) ([]ballot.Vote, api.Errno) {
		return g.nodes[i].acceptor.Prepare(b, slot)
	}})
	highest = max(highest, prepared.promised)
	if !g.isMajority(len(prepared.told)) {
		return 0, "", api.ErrLost
	}

	v := voteFor(slot, b, value, prepared.told)
	accepted := g.ask(question{loss: loss >> bitsOfRound, put: func(i int) ([]ballot.Vote, api.Errno) {
		return nil, g.accept(i, v)
	}})
	highest = max(highest, accepted.promised)
	if !g.isMajority(len(accepted.told)) {
		return 0, "", api.ErrLost
	}
	n.log = append(n.log, v.Value)
	return slot, v.Value, api.OK
}

// refusal tells why a node may not propose a value.
func (g *Group) refusal(node int, value string) api.Errno {
	switch {
	case !g.has(node):
		return api.ErrNone
	case !g.nodes[node].isUp():
		return api.ErrDead
	case len(value) > api.MaxText:
		return api.ErrLong
	case len(g.nodes[node].log) >= api.MaxLog:
		return api.ErrFull
	}
	return api.OK
}

// ask puts a question to each node that is up. Where the answer is lost it was done all the same.
func (g *Group) ask(q question) answers {
	var heard answers
	for i, n := range g.nodes {
		lost := q.loss >> (bitsOfNode * i)
		if !n.isUp() || lost&1 != 0 {
			continue
		}
		votes, e := q.put(i)
		if lost&2 != 0 {
			continue
		}
		heard.promised = max(heard.promised, n.acceptor.Promised())
		if e == api.OK {
			heard.told = append(heard.told, votes)
		}
	}
	return heard
}

// accept hands a vote to a node's acceptor.
func (g *Group) accept(node int, v ballot.Vote) api.Errno {
	e := g.nodes[node].acceptor.Accept(v)
	if e == api.OK {
		g.note(node, v)
	}
	return e
}

// voteFor is the vote that all are asked for: of the value that was voted for by the highest ballot, else of the one that was handed in. That one is copied, since it may be a piece of a far longer text, all of which it would keep.
func voteFor(slot, b int, value string, told [][]ballot.Vote) ballot.Vote {
	if v, ok := ballot.Choose(told, slot); ok {
		value = v.Value
	} else {
		value = strings.Clone(value)
	}
	return ballot.Vote{Slot: slot, Ballot: b, Value: value}
}
