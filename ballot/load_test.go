package ballot_test

import (
	"math"
	"math/rand"
	"slices"
	"strings"
	"testing"

	"weirkeep/api"
	"weirkeep/ballot"
)

// wantLoad fails, unless s is the text of an acceptor that promised that, and has just these votes.
func wantLoad(t *testing.T, s string, promised int, votes ...ballot.Vote) *ballot.Acceptor {
	t.Helper()
	a, e := ballot.Load(s)
	if a == nil || e != api.OK {
		t.Fatalf("Load(%.200q): %v, %d", s, a, e)
	}
	wantAcceptor(t, "loaded", a, promised, votes...)
	return a
}

// wantNoLoad fails, unless s is no acceptor's text.
func wantNoLoad(t *testing.T, what, s string) {
	t.Helper()
	if a, e := ballot.Load(s); a != nil || e != api.ErrWire {
		t.Errorf("%s: Load(%.200q): %v, %d, want ErrWire", what, s, a != nil, e)
	}
}

// P10.3: texts that were saved, with each byte another one.
func TestLoadOther(t *testing.T) {
	for _, s := range some() {
		text := s.text()
		wantLoad(t, text, s.promised, s.votes...)
		for i := range text {
			for bits := 1; bits < 256; bits <<= 1 {
				wantNoLoad(t, "a bit", other(text, i, byte(bits)))
			}
			wantNoLoad(t, "a byte", other(text, i, 255))
		}
	}
}

// P10.3: with a byte less, and one more, at the beginning, at the end, anywhere; sealed anew too, where that is no acceptor's.
func TestLoadLength(t *testing.T) {
	wantNoLoad(t, "the empty text", "")
	for _, s := range some() {
		text := s.text()
		body := text[:len(text)-4]
		for i := range text {
			wantNoLoad(t, "cut off", text[:i])
			wantNoLoad(t, "its end", text[i+1:])
			wantNoLoad(t, "a byte less", text[:i]+text[i+1:])
			wantNoLoad(t, "a byte more", text[:i]+"\x01"+text[i:])
		}
		for i := range body {
			wantNoLoad(t, "cut off and sealed", sealed(body[:i]))
		}
		for _, more := range []string{"\x00", "x", "\xff", strings.Repeat("\x00", 12), saidVote(4095, 1, 0, ""), body} {
			wantNoLoad(t, "more behind it", text+more)
			wantNoLoad(t, "more behind it, sealed", sealed(body+more))
			wantNoLoad(t, "more ahead of it", more+text)
		}
		wantNoLoad(t, "no sum", body)
		wantNoLoad(t, "sealed twice", sealed(text))
	}
	for n := range 40 {
		if n != 10 { // of ten bytes 0 it is a new one's
			wantNoLoad(t, "sealed bytes 0", sealed(strings.Repeat("\x00", n)))
		}
		wantNoLoad(t, "sealed bytes 255", sealed(strings.Repeat("\xff", n)))
		wantNoLoad(t, "bytes 0", strings.Repeat("\x00", n))
	}
}

// P10.3: what was promised is 0 or a ballot.
func TestLoadPromised(t *testing.T) {
	for _, b := range append([]int{0}, goodBallots()...) {
		wantLoad(t, sealed(saidHead(uint64(b), 0)), b)
	}
	for _, b := range []uint64{1<<40 + 1, 1<<40 + 2, 1 << 41, 1<<48 + 1, 1 << 62, math.MaxInt64, 1 << 63, 1<<63 + 1, math.MaxUint64} {
		wantNoLoad(t, "promised", sealed(saidHead(b, 0)))
		wantNoLoad(t, "promised, and a vote", sealed(saidHead(b, 1)+saidVote(3, 5, 1, "x")))
		wantNoLoad(t, "promised and voted", sealed(saidHead(b, 1)+saidVote(3, b, 1, "x")))
	}
}

// P10.3: a vote's numbers at, and beyond, the edges, of the first vote, a middle one and the last one.
func TestLoadVote(t *testing.T) {
	const most = 1 << 40
	ahead, behind := saidVote(1, 2, 1, "a"), saidVote(4090, 7, 1, "b")
	good := vote(9, 5, "xy")
	for _, c := range []struct {
		what, text string
		v          ballot.Vote
		is         bool
	}{
		{"good", saidVote(9, 5, 2, "xy"), good, true},
		{"the last ballot", saidVote(9, most, 2, "xy"), vote(9, most, "xy"), true},
		{"no ballot", saidVote(9, 0, 2, "xy"), good, false},
		{"a ballot above the last one", saidVote(9, most+1, 2, "xy"), good, false},
		{"a ballot far above", saidVote(9, most*2+5, 2, "xy"), good, false},
		{"a ballot below 0", saidVote(9, math.MaxUint64, 2, "xy"), good, false},
		{"a ballot of the highest bit", saidVote(9, 1<<63+5, 2, "xy"), good, false},
		{"the slot above the last one", saidVote(4096, 5, 2, "xy"), good, false},
		{"a slot far above", saidVote(math.MaxUint16, 5, 2, "xy"), good, false},
		{"the longest value", saidVote(9, 5, 1024, long(1024)), vote(9, 5, long(1024)), true},
		{"a value too long", saidVote(9, 5, 1025, long(1025)), good, false},
		{"a value far too long", saidVote(9, 5, math.MaxUint16, long(math.MaxUint16)), good, false},
		{"more than its length", saidVote(9, 5, 1, "xy"), good, false},
		{"less than its length", saidVote(9, 5, 3, "xy"), good, false},
	} {
		for i, text := range []string{c.text, c.text + behind, ahead + c.text, ahead + c.text + behind} {
			text = sealed(saidHead(most, []uint16{1, 2, 2, 3}[i]) + text)
			if !c.is {
				wantNoLoad(t, c.what, text)
				continue
			}
			votes := [][]ballot.Vote{{c.v}, {c.v, vote(4090, 7, "b")}, {vote(1, 2, "a"), c.v}, {vote(1, 2, "a"), c.v, vote(4090, 7, "b")}}
			wantLoad(t, text, most, votes[i]...)
		}
	}
	wantLoad(t, sealed(saidHead(9, 2)+saidVote(0, 9, 0, "")+saidVote(4095, 9, 0, "")), 9, vote(0, 9, ""), vote(4095, 9, ""))
}

// P10.3: no vote's ballot is above what was promised.
func TestLoadAbovePromised(t *testing.T) {
	for _, promised := range goodBallots() {
		for _, b := range append([]int{1<<40 + 1}, goodBallots()...) {
			text := sealed(saidHead(uint64(promised), 2) + saidVote(3, 1, 1, "x") + saidVote(4, uint64(b), 1, "y"))
			if b <= promised {
				wantLoad(t, text, promised, vote(3, 1, "x"), vote(4, b, "y"))
			} else {
				wantNoLoad(t, "above what was promised", text)
			}
		}
	}
	wantNoLoad(t, "a vote, and nothing promised", sealed(saidHead(0, 1)+saidVote(0, 1, 0, "")))
	wantNoLoad(t, "a vote of no ballot, and nothing promised", sealed(saidHead(0, 1)+saidVote(0, 0, 0, "")))
}

// P10.3: votes stand by slots, one of each.
func TestLoadOrder(t *testing.T) {
	slots := []int{0, 1, 2, 256, 4095}
	for _, first := range slots {
		for _, second := range slots {
			for _, third := range slots {
				text := saidHead(9, 3)
				var votes []ballot.Vote
				for i, slot := range []int{first, second, third} {
					text += saidVote(uint16(slot), uint64(9-i), 1, "abc"[i:i+1])
					votes = append(votes, vote(slot, 9-i, "abc"[i:i+1]))
				}
				if first < second && second < third {
					wantLoad(t, sealed(text), 9, votes...)
				} else {
					wantNoLoad(t, "out of order", sealed(text))
				}
			}
		}
	}
	wantNoLoad(t, "one vote twice", sealed(saidHead(9, 2)+strings.Repeat(saidVote(5, 6, 1, "x"), 2)))
}

// P10.3: there are as many votes as it says, and no more than there are slots.
func TestLoadCount(t *testing.T) {
	all := full()
	text := all.text()
	body := text[10 : len(text)-4]
	for _, count := range []uint16{0, 1, 255, 256, 4094, 4095, 4097, 8192, math.MaxUint16} {
		wantNoLoad(t, "another number of votes", sealed(saidHead(5000, count)+body))
	}
	wantLoad(t, sealed(saidHead(5000, 4096)+body), 5000, all.votes...)
	wantNoLoad(t, "a slot more", sealed(saidHead(5000, 4097)+body+saidVote(4096, 1, 0, "")))
	wantNoLoad(t, "a slot again", sealed(saidHead(5000, 4097)+body+saidVote(0, 1, 0, "")))
	votes := saidVote(7, 1, 0, "") + saidVote(8, 2, 1, "x")
	for count := range 5 {
		if count == 2 {
			wantLoad(t, sealed(saidHead(2, 2)+votes), 2, vote(7, 1, ""), vote(8, 2, "x"))
		} else {
			wantNoLoad(t, "another number of votes", sealed(saidHead(2, uint16(count))+votes))
		}
	}
}

// P10.3: whatever is sealed, Load tells what the document's words come to, and it is saved as it was.
func TestLoadWhatever(t *testing.T) {
	random := rand.New(rand.NewSource(11))
	texts := some()
	loaded := 0
	for range 30000 {
		s := texts[random.Intn(len(texts))].text()
		body := []byte(s[:len(s)-4])
		for range random.Intn(4) {
			body[random.Intn(min(len(body), 40))] = byte(random.Intn(256) >> random.Intn(9))
		}
		text := sealed(string(body))
		promised, votes := saidLoad(text)
		if promised < 0 {
			wantNoLoad(t, "whatever", text)
			continue
		}
		loaded++
		wantLoad(t, text, promised, votes...)
	}
	if loaded < 5000 || loaded > 25000 {
		t.Errorf("%d of 30000 are an acceptor's: they are too much alike", loaded)
	}
}

// R3, R5: two that are loaded from one text are two, and each Load tells the same.
func TestLoadIsNew(t *testing.T) {
	text := saidSave(9, vote(3, 7, "a"), vote(8, 9, "b"))
	a := wantLoad(t, text, 9, vote(3, 7, "a"), vote(8, 9, "b"))
	b := wantLoad(t, text, 9, vote(3, 7, "a"), vote(8, 9, "b"))
	list := a.Votes()
	wantAccept(t, a, vote(3, 10, "c"), api.OK)
	wantNoLoad(t, "between", text[1:])
	wantAcceptor(t, "the other one", b, 9, vote(3, 7, "a"), vote(8, 9, "b"))
	wantLoad(t, text, 9, vote(3, 7, "a"), vote(8, 9, "b"))
	if !slices.Equal(list, b.Votes()) {
		t.Errorf("told: %s", toldAll(list))
	}
}
