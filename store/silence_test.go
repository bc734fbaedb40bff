package store_test

import (
	"math"
	"strings"
	"testing"

	"weirkeep/api"
	"weirkeep/store"
)

// answerable are messages of each kind, that a server in the epoch 3 answers by OK.
func answerable() []api.Msg {
	return []api.Msg{readOf(3, 5), writeOf(0, 3, 9, block(5, 9, "z")), timeOf(4, 77), epochOf(5)}
}

// wantSilent fails, unless none of these is answered, and nothing changes.
func wantSilent(t *testing.T, what string, messages ...api.Msg) {
	t.Helper()
	wantNoTrace(t, what, rich, func(s *store.Server) {
		for _, m := range messages {
			for _, now := range []int{math.MinInt, 0, 10, math.MaxInt} {
				wantSilence(t, s, m, now)
			}
		}
	})
}

// P13.3: the messages that the others are made of are answered.
func TestAnswerable(t *testing.T) {
	s := rich(t)
	for i, m := range answerable() {
		data := ""
		if i == 0 {
			data = value(4, "a")
		}
		wantAnswer(t, s, m, 0, max(3, m.Epoch), api.OK, data)
	}
}

// P13.3: no answer to what wire.Check does not take: each of its clauses.
func TestSilenceOfWrong(t *testing.T) {
	for _, m := range answerable() {
		var wrong []api.Msg
		for _, at := range []struct {
			value         func(m *api.Msg) *int
			least, beyond int
		}{
			{func(m *api.Msg) *int { return &m.From }, -1, 8},
			{func(m *api.Msg) *int { return &m.To }, -1, 8},
			{func(m *api.Msg) *int { return &m.Epoch }, -1, 1<<40 + 1},
			{func(m *api.Msg) *int { return &m.Seq }, -1, 1<<40 + 1},
			{func(m *api.Msg) *int { return &m.Off }, -1, 257},
			{func(m *api.Msg) *int { return &m.Len }, -1, 257},
		} {
			for _, n := range []int{at.least, math.MinInt, at.beyond, math.MaxInt} {
				w := m
				*at.value(&w) = n
				wrong = append(wrong, w)
			}
		}
		w := m
		w.Data = strings.Repeat("x", 1025)
		wantSilent(t, "wrong", append(wrong, w)...)
	}
}

// P13.3: at the limits of wire.Check there is an answer.
func TestAnswerAtLimits(t *testing.T) {
	s := rich(t)
	for _, m := range []api.Msg{
		{Kind: kindRead, From: 7, To: me, Epoch: 3, Seq: 1 << 40, Off: 255, Len: 256, Data: strings.Repeat("x", 1024)},
		{Kind: kindRead, From: 0, To: me, Epoch: 3, Seq: 0, Off: 255, Len: 0},
	} {
		wantAnswer(t, s, m, 0, 3, api.OK, value(1<<40, full))
	}
	wantAnswer(t, s, api.Msg{Kind: kindWrite, From: 0, To: me, Epoch: 3, Seq: 1 << 40, Off: 256, Len: 256, Data: value(1<<40, full)}, 0, 3, api.ErrArg, "")
	wantAnswer(t, s, api.Msg{Kind: kindWrite, From: 1, To: me, Epoch: 3, Data: strings.Repeat("x", 1024)}, 0, 3, api.ErrWire, "")
	wantAnswer(t, s, api.Msg{Kind: kindEpoch, From: 7, To: me, Epoch: 1 << 40, Off: 256, Data: strings.Repeat("x", 1024)}, 0, 1<<40, api.OK, "")
}

// P13.3: no answer to what is to another server.
func TestSilenceToOthers(t *testing.T) {
	for _, m := range answerable() {
		var others []api.Msg
		for to := range 8 {
			if to != me {
				o := m
				o.To = to
				others = append(others, o)
			}
		}
		wantSilent(t, "to another one", others...)
	}
}

// P13.3: no answer to a kind that is none, nor to answers.
func TestSilenceOfKinds(t *testing.T) {
	for _, m := range answerable() {
		var others []api.Msg
		for _, kind := range []int{math.MinInt, -1, 0, 5, 6, 127, 128, 129, 130, 131, 132, 133, 255, 256, 257, 258, 1 << 32, 1<<32 + 1, math.MaxInt} {
			o := m
			o.Kind = kind
			others = append(others, o)
		}
		wantSilent(t, "another kind", others...)
	}
	s := rich(t)
	for kind := -300; kind < 300; kind++ {
		if kind < 1 || kind > 4 {
			wantSilence(t, s, msg(kind, 0, 3, 9, 5, value(9, "z")), 0)
		}
	}
}

// P13.3: no answer without power, and nothing changes then, nor behind it.
func TestSilenceWithoutPower(t *testing.T) {
	crashed := func(t *testing.T) *store.Server {
		s := rich(t)
		s.Crash(0)
		return s
	}
	silent := func(s *store.Server) {
		for _, m := range answerable() {
			m.Epoch = 3
			wantSilence(t, s, m, 0)
			m.Epoch = 0
			wantSilence(t, s, m, 0)
		}
	}
	wantNoTrace(t, "without power", crashed, silent)
	wantNoTrace(t, "behind it", func(t *testing.T) *store.Server { return crashed(t) }, func(s *store.Server) {
		silent(s)
		s.Cut(1, 0)
		silent(s)
	})
	s := crashed(t)
	silent(s)
	s.Power()
	wantAnswer(t, s, writeOf(4, 0, 0, block(5, 9, "z")), 0, 0, api.ErrFence, "")
	wantBlocks(t, s, block(0, 1, ""), block(5, 4, "a"), block(255, 1<<40, full))
}
