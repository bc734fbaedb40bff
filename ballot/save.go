package ballot

import (
	"weirkeep/api"
	"weirkeep/check"
	"weirkeep/field"
)

// How many bytes each number of a saved acceptor takes; countBytes is of how many votes it has.
const (
	ballotBytes = 8
	countBytes  = 2
	slotBytes   = 2
)

// Save tells all of the acceptor as sealed bytes. The writer's errors need no look: it takes all that a promise, or a vote, can be.
func (a *Acceptor) Save() string {
	w := field.NewWriter()
	votes := a.Votes()
	w.Num(a.promised, ballotBytes)
	w.Num(len(votes), countBytes)
	for _, v := range votes {
		w.Num(v.Slot, slotBytes)
		w.Num(v.Ballot, ballotBytes)
		w.Text(v.Value)
	}
	return check.Seal(w.Bytes())
}

// Load makes the acceptor that was saved as s.
func Load(s string) (*Acceptor, api.Errno) {
	body, whole := check.Open(s)
	if !whole {
		return nil, api.ErrWire
	}
	a := New()
	if err := a.read(field.NewReader(body)); err != nil {
		return nil, api.ErrWire
	}
	return a, api.OK
}

// read lets a new acceptor be the one of which these are the fields. They are read by closures that keep the first error, behind which none counts; one that no acceptor has is an error too.
func (a *Acceptor) read(r *field.Reader) error {
	var first error
	keep := func(err error) {
		if first == nil {
			first = err
		}
	}
	number := func(bytes int) int {
		n, err := r.Num(bytes)
		keep(err)
		return n
	}
	text := func() string {
		s, err := r.Text()
		keep(err)
		return s
	}
	a.promised = number(ballotBytes)
	if a.promised > api.MaxSeq {
		keep(api.ErrWire)
	}
	least := 0 // slots rise: the next vote's is this one, or above
	for range number(countBytes) {
		v := Vote{Slot: number(slotBytes), Ballot: number(ballotBytes), Value: text()}
		if v.Slot < least || v.Ballot > a.promised || wrong(v) != api.OK {
			keep(api.ErrWire)
		}
		if first != nil {
			return first
		}
		a.vote(v)
		least = v.Slot + 1
	}
	keep(r.End())
	return first
}
