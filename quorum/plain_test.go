package quorum_test

import (
	"slices"
	"strings"
	"testing"

	"weirkeep/api"
	"weirkeep/quorum"
)

// accepted is that a node voted for a value.
type accepted struct {
	node, slot, ballot int
	value              string
}

// plain is what a group is held against: all that each node has, and each vote that ever was.
type plain struct {
	down     []bool
	round    []int
	promised []int
	logs     [][]string
	votes    []accepted // in the order in which they came
}

func newPlain(n int) *plain {
	return &plain{down: make([]bool, n), round: make([]int, n), promised: make([]int, n), logs: make([][]string, n)}
}

// vote tells a node's last vote of a slot.
func (p *plain) vote(node, slot int) (accepted, bool) {
	for _, v := range slices.Backward(p.votes) {
		if v.node == node && v.slot == slot {
			return v, true
		}
	}
	return accepted{}, false
}

// chosen tells the value that more than half of the nodes voted for at one ballot.
func (p *plain) chosen(slot int) (string, bool) {
	for _, v := range p.votes {
		count := 0
		for _, w := range p.votes {
			if v.slot == slot && w.slot == slot && w.ballot == v.ballot {
				count++
			}
		}
		if 2*count > len(p.down) {
			return v.value, true
		}
	}
	return "", false
}

// wrong is the error that stands ahead of a Propose's rounds.
func (p *plain) wrong(node int, value string) api.Errno {
	switch {
	case node < 0 || node >= len(p.down):
		return api.ErrNone
	case p.down[node]:
		return api.ErrDead
	case len(value) > 1024:
		return api.ErrLong
	}
	return api.OK
}

func (p *plain) propose(node int, value string, loss uint64) (int, string, api.Errno) {
	if e := p.wrong(node, value); e != api.OK {
		return 0, "", e
	}
	ballot, slot := 8*p.round[node]+node+1, len(p.logs[node])
	next := p.round[node]
	got, e := p.rounds(ballot, slot, value, loss, func(promised int) { next = max(next, (promised-1)/8) })
	p.round[node] = next + 1
	if e != api.OK {
		return 0, "", e
	}
	p.logs[node] = append(p.logs[node], got)
	return slot, got, api.OK
}

// rounds are both rounds of a Propose; what each node that is heard had promised goes to heard.
func (p *plain) rounds(ballot, slot int, value string, loss uint64, heard func(promised int)) (string, api.Errno) {
	promised, highest := 0, 0
	for i := range p.down {
		bits := loss >> (4 * i)
		if p.down[i] || bits%2 == 1 {
			continue
		}
		agrees := p.promised[i] <= ballot
		p.promised[i] = max(p.promised[i], ballot)
		if bits/2%2 == 1 {
			continue
		}
		heard(p.promised[i])
		if agrees {
			promised++
			if v, ok := p.vote(i, slot); ok && v.ballot > highest {
				value, highest = v.value, v.ballot
			}
		}
	}
	if 2*promised <= len(p.down) {
		return "", api.ErrLost
	}
	count := 0
	for i := range p.down {
		bits := loss >> (4*i + 2)
		if p.down[i] || bits%2 == 1 {
			continue
		}
		agrees := p.promised[i] <= ballot
		if agrees {
			p.promised[i] = ballot
			p.votes = append(p.votes, accepted{i, slot, ballot, value})
		}
		if bits/2%2 == 1 {
			continue
		}
		heard(p.promised[i])
		if agrees {
			count++
		}
	}
	if 2*count <= len(p.down) {
		return "", api.ErrLost
	}
	return value, api.OK
}

func (p *plain) learn(node, of int) (int, api.Errno) {
	n := len(p.down)
	if node < 0 || node >= n || of < 0 || of >= n {
		return 0, api.ErrNone
	}
	if p.down[node] || p.down[of] {
		return 0, api.ErrDead
	}
	more := len(p.logs[of]) - len(p.logs[node])
	if more <= 0 {
		return 0, api.OK
	}
	p.logs[node] = slices.Clone(p.logs[of])
	return more, api.OK
}

func (p *plain) power(node int, down bool) api.Errno {
	if node < 0 || node >= len(p.down) {
		return api.ErrNone
	}
	p.down[node] = down
	return api.OK
}

// held is a group, and beside it the plain one.
type held struct {
	t     *testing.T
	group *quorum.Group
	plain *plain
	seen  map[string]int
}

func newHeld(t *testing.T, n int) *held {
	return &held{t: t, group: quorum.New(n), plain: newPlain(n), seen: map[string]int{}}
}

// propose fails, unless the group answers what the plain one does.
func (h *held) propose(node int, value string, loss uint64) api.Errno {
	h.t.Helper()
	slot, want, e := h.plain.propose(node, value, loss)
	if e == api.OK {
		wantPropose(h.t, h.group, node, value, loss, slot, want)
	} else {
		wantNoPropose(h.t, h.group, node, value, loss, e)
	}
	if e == api.OK && want != value {
		h.seen["another value"]++
	}
	return e
}

// wantSame fails, unless all that can be asked of the group is as it is in the plain one.
func (h *held) wantSame() {
	h.t.Helper()
	wantLogs(h.t, h.group, h.plain.logs...)
	slots := 0
	for _, v := range h.plain.votes {
		slots = max(slots, v.slot+1)
	}
	for slot := range slots + 2 {
		h.wantSameChosen(slot)
	}
}

func (h *held) wantSameChosen(slot int) {
	h.t.Helper()
	want, ok := h.plain.chosen(slot)
	wantChosenIf(h.t, h.group, slot, want, ok)
}

// wantFollows fails, unless what P11.5 says holds: no slot has two values that are chosen, what stands in a log is chosen, and of two logs one begins with the other.
func (h *held) wantFollows() {
	h.t.Helper()
	count := map[accepted]int{}
	values := map[int]string{}
	for _, v := range h.plain.votes {
		v.node = 0
		count[v]++
		if 2*count[v] <= len(h.plain.down) {
			continue
		}
		if value, ok := values[v.slot]; ok && value != v.value {
			h.t.Fatalf("slot %d: %.20q and %.20q are chosen", v.slot, value, v.value)
		}
		values[v.slot] = v.value
	}
	var longest []string
	for i := range h.group.Len() {
		if log := h.group.Log(i); len(log) > len(longest) {
			longest = log
		}
	}
	for i := range h.group.Len() {
		log := h.group.Log(i)
		if !slices.Equal(log, longest[:len(log)]) {
			h.t.Fatalf("log %d is %s, another one %s", i, toldLog(log), toldLog(longest))
		}
	}
	for slot, value := range longest {
		if got, ok := values[slot]; !ok || got != value {
			h.t.Fatalf("slot %d: %.20q stands in a log, and %.20q, %t, is chosen", slot, value, got, ok)
		}
		wantChosen(h.t, h.group, slot, value)
	}
}

// follow lets the nodes propose and learn in the way of that number, so that what a call left behind is seen.
func (h *held) follow(way int) {
	h.t.Helper()
	n := h.group.Len()
	for i := range 2 * n {
		node := (way + i) % n
		loss := uint64(0)
		if i < n && n > 2 {
			loss = lost(ask1|ask2, (way/n+i)%n)
		}
		h.propose(node, strings.Repeat("v", i+1), loss)
	}
	h.wantSame()
}
