package ballot_test

import (
	"strings"
	"testing"

	"weirkeep/api"
	"weirkeep/ballot"
)

// saved is an acceptor by what it promised and its votes.
type saved struct {
	promised int
	votes    []ballot.Vote
}

func (s saved) text() string { return saidSave(s.promised, s.votes...) }

// some are acceptors of many kinds: new, without a vote, with one vote, with votes in the first and the last slot, with values of no byte and of MaxText bytes, with ballots of all widths.
func some() []saved {
	list := []saved{
		{0, nil},
		{1, nil},
		{1 << 40, nil},
		{0x0102030405, nil},
		{1, []ballot.Vote{vote(0, 1, "")}},
		{9, []ballot.Vote{vote(0, 7, "y"), vote(2, 8, "z")}},
		{9, []ballot.Vote{vote(258, 5, "ab")}},
		{1 << 40, []ballot.Vote{vote(4095, 1<<40, long(1024))}},
		{1 << 40, []ballot.Vote{vote(0, 1, long(1024)), vote(4095, 1<<40, "")}},
		{300, []ballot.Vote{vote(0, 300, ""), vote(1, 299, long(255)), vote(255, 256, long(256)), vote(256, 255, "\x00"), vote(4094, 300, "\xff\xfe"), vote(4095, 1, "é")}},
	}
	for _, b := range goodBallots() {
		list = append(list, saved{b, nil}, saved{b, []ballot.Vote{vote(77, b, "b")}}, saved{1 << 40, []ballot.Vote{vote(77, b, "b")}})
	}
	return list
}

// full has a vote in each slot.
func full() saved {
	s := saved{promised: 5000}
	for slot := range 4096 {
		s.votes = append(s.votes, vote(slot, 1+slot, long(slot%50)))
	}
	return s
}

// P10.3: each byte, by hand.
func TestSaveByHand(t *testing.T) {
	for _, c := range []struct {
		promised int
		votes    []ballot.Vote
		want     string
	}{
		{0, nil, strings.Repeat("\x00", 10) + "\x76\x68\x8a\xe3"},
		{258, nil, "\x02\x01\x00\x00\x00\x00\x00\x00\x00\x00"},
		{1 << 40, []ballot.Vote{vote(4095, 258, "ab")},
			"\x00\x00\x00\x00\x00\x01\x00\x00\x01\x00" +
				"\xff\x0f\x02\x01\x00\x00\x00\x00\x00\x00\x02\x00ab"},
		{9, []ballot.Vote{vote(0, 7, ""), vote(258, 9, strings.Repeat("x", 1024))},
			"\x09\x00\x00\x00\x00\x00\x00\x00\x02\x00" +
				"\x00\x00\x07\x00\x00\x00\x00\x00\x00\x00\x00\x00" +
				"\x02\x01\x09\x00\x00\x00\x00\x00\x00\x00\x00\x04" + strings.Repeat("x", 1024)},
	} {
		if c.promised > 0 {
			c.want = sealed(c.want)
		}
		if got := acceptorOf(t, c.promised, c.votes...).Save(); got != c.want {
			t.Errorf("%d, %s: %q, want %q", c.promised, toldAll(c.votes), got, c.want)
		}
	}
}

// P10.3: acceptors of many kinds are saved so, and what Load makes of it is the same one.
func TestSaveAndLoad(t *testing.T) {
	for _, s := range append(some(), full()) {
		a := acceptorOf(t, s.promised, s.votes...)
		wantAcceptor(t, "saved", a, s.promised, s.votes...)
		wantLoad(t, a.Save(), s.promised, s.votes...)
		wantAcceptor(t, "saved and loaded", a, s.promised, s.votes...)
	}
}

// P10.5: the one that was loaded answers as the one that was saved does; neither hangs on the other.
func TestLoadedAnswers(t *testing.T) {
	for _, s := range some() {
		a := acceptorOf(t, s.promised, s.votes...)
		b := wantLoad(t, a.Save(), s.promised, s.votes...)
		for _, from := range []int{-1, 0, 1, 77, 78, 4095, 4096} {
			for _, number := range []int{0, s.promised - 1, s.promised} {
				want, e := a.Prepare(number, from)
				if e == api.OK {
					wantPrepare(t, b, number, from, want...)
				} else {
					wantNoPrepare(t, b, number, from, e)
				}
			}
		}
		for _, v := range []ballot.Vote{vote(77, s.promised-1, "x"), vote(0, s.promised, "x"), vote(77, s.promised, "y"), vote(4095, s.promised+1, ""), vote(5, s.promised, long(1025)), vote(4096, 1, "")} {
			before := saved{b.Promised(), b.Votes()}
			e := a.Accept(v)
			wantAcceptor(t, "the other one was asked", b, before.promised, before.votes...)
			wantAccept(t, b, v, e)
			wantAcceptor(t, "asked too", b, a.Promised(), a.Votes()...)
		}
	}
}

// P10.3, R5: what is saved hangs on what was promised and accepted last, not on the way there; Save changes nothing.
func TestSaveAgain(t *testing.T) {
	a := ballot.New()
	for i := range 50 {
		wantPrepare(t, a, 1+i, 4096)
		wantAccept(t, a, vote(9, 1+i, long(i)), api.OK)
		wantAccept(t, a, vote(5, 1+i, ""), api.OK)
		a.Save()
	}
	text := a.Save()
	wantAcceptor(t, "a long way", a, 50, vote(5, 50, ""), vote(9, 50, long(49)))
	if again := a.Save(); again != text {
		t.Errorf("%q, and then %q", text, again)
	}
	wantPrepare(t, a, 51, 0, vote(5, 50, ""), vote(9, 50, long(49)))
	if text != saidSave(50, vote(5, 50, ""), vote(9, 50, long(49))) {
		t.Errorf("it is another text now: %q", text)
	}
	wantLoad(t, text, 50, vote(5, 50, ""), vote(9, 50, long(49)))
}
