package ballot_test

import (
	"encoding/binary"
	"fmt"
	"hash/crc32"
	"math"
	"slices"
	"strings"
	"testing"

	"weirkeep/api"
	"weirkeep/ballot"
)

func vote(slot, b int, value string) ballot.Vote {
	return ballot.Vote{Slot: slot, Ballot: b, Value: value}
}

// told is a vote in few words, and toldAll a list of them.
func told(v ballot.Vote) string {
	return fmt.Sprintf("(%d, %d, %d bytes %.20q)", v.Slot, v.Ballot, len(v.Value), v.Value)
}

func toldAll(votes []ballot.Vote) string {
	var words []string
	for _, v := range votes[:min(len(votes), 20)] {
		words = append(words, told(v))
	}
	return fmt.Sprintf("%d votes %s", len(votes), strings.Join(words, " "))
}

// long is a text of so many bytes, of which no two that lie near to each other are alike.
func long(bytes int) string {
	s := make([]byte, bytes)
	for i := range s {
		s[i] = byte(i*7 + i>>8)
	}
	return string(s)
}

// sealed is a body with its sum behind it, as the library has it.
func sealed(body string) string {
	return body + string(binary.LittleEndian.AppendUint32(nil, crc32.ChecksumIEEE([]byte(body))))
}

// saidHead is a saved acceptor's numbers ahead of its votes, and saidVote a vote's fields, whatever they are.
func saidHead(promised uint64, votes uint16) string {
	return string(binary.LittleEndian.AppendUint16(binary.LittleEndian.AppendUint64(nil, promised), votes))
}

func saidVote(slot uint16, b uint64, length uint16, value string) string {
	s := binary.LittleEndian.AppendUint64(binary.LittleEndian.AppendUint16(nil, slot), b)
	return string(binary.LittleEndian.AppendUint16(s, length)) + value
}

// saidSave is the saved text of an acceptor that promised that, and has just these votes.
func saidSave(promised int, votes ...ballot.Vote) string {
	var body strings.Builder
	body.WriteString(saidHead(uint64(promised), uint16(len(votes))))
	for _, v := range votes {
		body.WriteString(saidVote(uint16(v.Slot), uint64(v.Ballot), uint16(len(v.Value)), v.Value))
	}
	return sealed(body.String())
}

// saidLoad is the acceptor that is saved as s: what it promised, and its votes; -1, if s is no acceptor's.
func saidLoad(s string) (int, []ballot.Vote) {
	if len(s) < 14 || sealed(s[:len(s)-4]) != s {
		return -1, nil
	}
	b := []byte(s[:len(s)-4])
	promised, count, b := binary.LittleEndian.Uint64(b), int(binary.LittleEndian.Uint16(b[8:])), b[10:]
	if promised > 1<<40 {
		return -1, nil
	}
	var votes []ballot.Vote
	for len(b) >= 12 {
		slot, number, length := binary.LittleEndian.Uint16(b), binary.LittleEndian.Uint64(b[2:]), int(binary.LittleEndian.Uint16(b[10:]))
		if slot > 4095 || number < 1 || number > promised || length > 1024 || length > len(b)-12 {
			return -1, nil
		}
		if len(votes) > 0 && votes[len(votes)-1].Slot >= int(slot) {
			return -1, nil
		}
		votes = append(votes, vote(int(slot), int(number), string(b[12:12+length])))
		b = b[12+length:]
	}
	if len(b) > 0 || len(votes) != count {
		return -1, nil
	}
	return int(promised), votes
}

// other is s with the byte at that place changed by some bits.
func other(s string, at int, bits byte) string {
	b := []byte(s)
	b[at] ^= bits
	return string(b)
}

// wrongBallots are numbers that are no ballot: just outside, far outside, and such as were one if they were cut to fewer bits.
func wrongBallots() []int {
	return []int{0, -1, -2, -8, -1 << 32, -1 << 40, math.MinInt32, math.MinInt, math.MinInt + 1, 1<<40 + 1, 1<<40 + 2, 1<<40 + 8, 1 << 41, 1<<41 + 1, 1 << 48, 1 << 62, math.MaxInt - 1, math.MaxInt}
}

// wrongSlots are numbers that are no slot, likewise.
func wrongSlots() []int {
	return []int{-1, -2, -4095, -4096, 4096, 4097, 8191, 8192, 1 << 16, 1<<16 + 1, 1 << 32, 1<<32 + 1, math.MinInt32, math.MinInt, math.MaxInt}
}

// goodBallots are ballots at and around the edges.
func goodBallots() []int {
	return []int{1, 2, 7, 8, 9, 255, 256, 1<<16 - 1, 1 << 16, 1<<32 - 1, 1 << 32, 0x0102030405, 1<<40 - 8, 1<<40 - 1, 1 << 40}
}

// acceptorOf is a new acceptor that promised that, and has these votes, each accepted by its own ballot.
func acceptorOf(t *testing.T, promised int, votes ...ballot.Vote) *ballot.Acceptor {
	t.Helper()
	a := ballot.New()
	votes = slices.Clone(votes)
	slices.SortStableFunc(votes, func(v, w ballot.Vote) int { return v.Ballot - w.Ballot })
	for _, v := range votes {
		wantAccept(t, a, v, api.OK)
	}
	if promised > a.Promised() {
		wantPrepare(t, a, promised, 4096)
	}
	return a
}

// wantAcceptor fails, unless a promised that, and has just these votes.
func wantAcceptor(t *testing.T, what string, a *ballot.Acceptor, promised int, votes ...ballot.Vote) {
	t.Helper()
	if got := a.Promised(); got != promised {
		t.Fatalf("%s: Promised is %d, want %d", what, got, promised)
	}
	if got := a.Votes(); !slices.Equal(got, votes) {
		t.Fatalf("%s: Votes is %s, want %s", what, toldAll(got), toldAll(votes))
	}
	if got, want := a.Save(), saidSave(promised, votes...); got != want {
		t.Fatalf("%s: Save is %.200q, want %.200q", what, got, want)
	}
}

func wantAccept(t *testing.T, a *ballot.Acceptor, v ballot.Vote, want api.Errno) {
	t.Helper()
	if got := a.Accept(v); got != want {
		t.Fatalf("Accept %s: %d, want %d", told(v), got, want)
	}
}

// wantPrepare fails, unless b is promised, and these votes are told.
func wantPrepare(t *testing.T, a *ballot.Acceptor, b, from int, want ...ballot.Vote) {
	t.Helper()
	if got, e := a.Prepare(b, from); !slices.Equal(got, want) || e != api.OK {
		t.Fatalf("Prepare(%d, %d): %s, %d, want %s", b, from, toldAll(got), e, toldAll(want))
	}
}

// wantNoPrepare fails, unless there is that error, and no vote is told.
func wantNoPrepare(t *testing.T, a *ballot.Acceptor, b, from int, want api.Errno) {
	t.Helper()
	if got, e := a.Prepare(b, from); len(got) > 0 || e != want {
		t.Fatalf("Prepare(%d, %d): %s, %d, want no votes, %d", b, from, toldAll(got), e, want)
	}
}
