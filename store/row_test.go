package store_test

import (
	"math/rand"
	"slices"
	"strconv"
	"testing"

	"weirkeep/api"
	"weirkeep/plate"
	"weirkeep/shelf"
	"weirkeep/store"
)

// saidWrite is a known write.
type saidWrite struct {
	seq    int
	status api.Errno
}

// held is a server, and beside it what it is held against: a plate and a shelf of its own, an epoch, times, known writes.
type held struct {
	t      *testing.T
	random *rand.Rand
	server *store.Server
	plate  *plate.Plate
	shelf  *shelf.Shelf
	epoch  int
	until  map[int]int
	known  map[int]saidWrite
	seen   map[string]int
}

func newHeld(t *testing.T, seed int, seen map[string]int) *held {
	sectors := 4 + seed%4*3
	h := &held{t: t, random: rand.New(rand.NewSource(int64(seed))), server: store.New(me, sectors), plate: plate.New(sectors), seen: seen}
	h.begin()
	return h
}

func (h *held) begin() {
	h.shelf, _ = shelf.Open(h.plate)
	h.epoch, h.until, h.known = 0, map[int]int{}, map[int]saidWrite{}
}

// said is the status, and the Data, of an answer to a message that is answered.
func (h *held) said(m api.Msg, now int) (api.Errno, string) {
	ver, data, ok := saidParse(m.Data)
	switch {
	case m.Kind <= kindWrite && m.Epoch != h.epoch:
		return api.ErrEpoch, ""
	case m.Kind == kindRead:
		b, e := h.shelf.Get(m.Off)
		if e != api.OK {
			return e, ""
		}
		return api.OK, value(b.Ver, b.Data)
	case m.Kind == kindEpoch && m.Epoch < h.epoch:
		return api.ErrOld, ""
	case m.Kind == kindEpoch:
		h.epoch = m.Epoch
		return api.OK, ""
	case !ok:
		return api.ErrWire, ""
	case m.Kind == kindTime && m.Off > 7:
		return api.ErrArg, ""
	case m.Kind == kindTime:
		h.until[m.Off] = ver
		return api.OK, ""
	}
	return h.saidWrite(m, now, block(m.Off, ver, data)), ""
}

func (h *held) saidWrite(m api.Msg, now int, b api.Block) api.Errno {
	until, may := h.until[m.From]
	known, ok := h.known[m.From]
	there, e := h.shelf.Get(m.Off)
	switch {
	case !may || now > until:
		return api.ErrFence
	case ok && m.Seq < known.seq:
		return api.ErrOld
	case ok && m.Seq == known.seq:
		h.seen["known "+strconv.Itoa(int(known.status))]++
		return known.status
	case e == api.OK && there == b:
		h.seen["just this"]++
	default:
		e = h.shelf.Put(b)
	}
	h.known[m.From] = saidWrite{m.Seq, e}
	return e
}

// any is a message of any kind, of few clients, Seqs, blocks, versions; mostly one that is answered.
func (h *held) any() api.Msg {
	from := h.random.Intn(8)
	m := msg(1+h.random.Intn(4), from, h.epoch, h.known[from].seq+h.random.Intn(3), h.random.Intn(12), "")
	if h.random.Intn(3) > 0 {
		m.Kind = kindWrite
	}
	if m.Kind == kindEpoch {
		m.Epoch = max(0, h.epoch+h.random.Intn(3)-1)
	}
	m.Data = value(h.random.Intn(9), long[:h.random.Intn(3)])
	if b, e := h.shelf.Get(m.Off); e == api.OK && h.random.Intn(3) > 0 {
		m.Data = value(b.Ver+h.random.Intn(2), b.Data)
	}
	switch h.random.Intn(40) {
	case 0:
		m.Epoch = max(0, h.epoch-1)
	case 1:
		m.Epoch++
	case 2:
		m.Data = noValues()[h.random.Intn(len(noValues()))]
	case 3:
		m.Seq = h.random.Intn(max(1, m.Seq))
	case 4:
		m.Off = 254 + h.random.Intn(3)
	case 5:
		m.To = h.random.Intn(8)
	case 6:
		m.Kind = []int{0, 5, 127, 128, 129, 255}[h.random.Intn(6)]
	case 7:
		m.Len = 257
	}
	return m
}

// handle fails, unless m is answered as it should be.
func (h *held) handle(m api.Msg, now int) {
	h.t.Helper()
	if h.plate.Dead() || m.To != me || m.Kind < 1 || m.Kind > 4 || m.Len > 256 {
		wantSilence(h.t, h.server, m, now)
		h.seen["silence"]++
		return
	}
	status, data := h.said(m, now)
	if h.plate.Dead() {
		wantSilence(h.t, h.server, m, now)
		h.seen["cut off"]++
		return
	}
	wantAnswer(h.t, h.server, m, now, h.epoch, status, data)
	h.seen[strconv.Itoa(m.Kind)+" "+strconv.Itoa(int(status))]++
}

// mine is a block to put by hand.
func (h *held) mine() api.Block {
	return block(h.random.Intn(14)-1, h.random.Intn(14), long[:h.random.Intn(18)])
}

func (h *held) put() {
	b, dead := h.mine(), h.plate.Dead()
	want := h.shelf.Put(b)
	if dead {
		want = api.ErrDead
	}
	wantPut(h.t, h.server, b, want)
}

func (h *held) drop() {
	id := h.mine().ID
	wantDrop(h.t, h.server, id, h.shelf.Drop(id))
}

func (h *held) crash() {
	keep := h.random.Uint64()
	h.server.Crash(keep)
	h.plate.Crash(keep)
}

func (h *held) cut() {
	n, keep := h.random.Intn(30), h.random.Uint64()
	h.server.Cut(n, keep)
	h.plate.Cut(n, keep)
}

func (h *held) power() {
	h.server.Power()
	if h.plate.Dead() {
		h.plate.Power()
		h.begin()
	}
	if h.random.Intn(4) > 0 {
		for from := range 7 {
			h.handle(timeOf(from, 8), 0)
		}
	}
}

// same fails, unless the server has just the power, the plate's calls and the blocks that it should have.
func (h *held) same() {
	h.t.Helper()
	if h.server.Dead() != h.plate.Dead() || h.server.Calls() != h.plate.Calls() {
		h.t.Fatalf("Dead is %t, Calls %d, want %t, %d", h.server.Dead(), h.server.Calls(), h.plate.Dead(), h.plate.Calls())
	}
	if got, want := h.server.List(), h.shelf.List(); !slices.Equal(got, want) {
		h.t.Fatalf("List is %v, want %v", got, want)
	}
	for id := -1; id < 15; id++ {
		want, e := h.shelf.Get(id)
		if h.plate.Dead() {
			want, e = api.Block{}, api.ErrDead
		}
		if got, gotE := h.server.Get(id); got != want || gotE != e {
			h.t.Fatalf("Get(%d): %v, %d, want %v, %d", id, got, gotE, want, e)
		}
	}
}

// P13.2, P13.3: long rows of calls of all kinds, with crashes between, held against a plate and a shelf, a plain epoch, times and known writes.
func TestRows(t *testing.T) {
	seen := map[string]int{}
	for seed := range 80 {
		h := newHeld(t, seed, seen)
		calls := []func(){h.put, h.drop, h.crash, h.cut, h.power, h.power}
		for range 1500 {
			if h.random.Intn(6) > 0 && (!h.plate.Dead() || h.random.Intn(2) > 0) {
				h.handle(h.any(), h.random.Intn(10))
			} else if h.plate.Dead() {
				h.power()
			} else {
				calls[h.random.Intn(len(calls))]()
			}
			h.same()
		}
	}
	for _, what := range []string{
		"silence", "cut off", "just this", "known 0", "known 1", "known 2", "known 5",
		"1 0", "1 3", "1 120", "2 0", "2 1", "2 2", "2 5", "2 30", "2 120", "2 140", "3 0", "3 1", "3 30", "4 0", "4 5",
	} {
		if seen[what] < 100 {
			t.Errorf("%s: %d times: the rows are too much alike", what, seen[what])
		}
	}
}

// twice is a server to which each write comes twice.
type twice struct {
	*testing.T
	random *rand.Rand
	server *store.Server
	seqs   [8]int
	seen   map[api.Errno]int
}

// write is a client's next write, of a block that mostly is newer than what is there.
func (w *twice) write(from int) api.Msg {
	w.seqs[from] += 1 + w.random.Intn(2)
	b := block(w.random.Intn(9), w.random.Intn(4), full[:w.random.Intn(17)])
	if there, e := w.server.Get(b.ID); e == api.OK {
		b.Ver += there.Ver - w.random.Intn(2)
	}
	return writeOf(from, 1, w.seqs[from], block(b.ID, max(0, b.Ver), b.Data))
}

// between lets other messages come: reads, and other clients' writes, which may be of the same block.
func (w *twice) between(from int) {
	for range w.random.Intn(4) {
		w.server.Handle(msg(kindRead, w.random.Intn(8), w.random.Intn(2), w.random.Intn(99), w.random.Intn(12), ""), w.random.Intn(20))
	}
	if other := w.random.Intn(8); other != from && w.random.Intn(2) == 0 {
		w.server.Handle(w.write(other), w.random.Intn(20))
	}
	if w.random.Intn(9) == 0 {
		w.server.Drop(w.random.Intn(9))
	}
}

// P13.4: a write that comes twice, and once more, is done once, and answered alike, whatever comes between.
func TestWriteTwice(t *testing.T) {
	seen := map[api.Errno]int{}
	for seed := range 100 {
		w := &twice{T: t, random: rand.New(rand.NewSource(int64(seed))), server: store.New(me, 4+seed%8), seen: seen}
		w.server.Handle(epochOf(1), 0)
		for from := range 7 {
			w.server.Handle(timeOf(from, 10), 0)
		}
		for range 300 {
			from, now := w.random.Intn(8), w.random.Intn(12)
			m := w.write(from)
			first, is := w.server.Handle(m, now)
			if !is {
				t.Fatalf("%s: no answer", told(m))
			}
			seen[api.Errno(first.Len)]++
			for range 2 {
				w.between(from)
				wantNothingPut(t, w.server, func() {
					if again, is := w.server.Handle(m, now); again != first || !is {
						t.Fatalf("%s: %s, %t, at first %s", told(m), told(again), is, told(first))
					}
				})
			}
		}
	}
	for _, e := range []api.Errno{api.OK, api.ErrArg, api.ErrFull, api.ErrOld, api.ErrFence} {
		if seen[e] < 100 {
			t.Errorf("answered %d: %d times: the rows are too much alike", e, seen[e])
		}
	}
}

// lasting is a server that crashes often, and beside it, of each block, what was answered OK last, and what may be there too: newer writes that were not answered.
type lasting struct {
	*testing.T
	random *rand.Rand
	server *store.Server
	seq    int
	sure   map[int]api.Block
	maybe  map[int][]api.Block
	seen   map[string]int
}

// anew gives the server power, if it has none, and lets all clients write.
func (l *lasting) anew() {
	l.server.Power()
	l.server.Handle(epochOf(1), 0)
	for from := range 8 {
		l.server.Handle(timeOf(from, 10), 0)
	}
}

// write lets a block have a version that it never had; the power may go meanwhile, or when it is answered.
func (l *lasting) write() {
	if l.random.Intn(2) == 0 {
		l.server.Cut(1+l.random.Intn(8), l.random.Uint64())
	}
	l.seq++
	b := block(l.random.Intn(5), l.seq, full[:l.random.Intn(17)])
	a, is := l.server.Handle(writeOf(l.random.Intn(8), 1, l.seq, b), l.random.Intn(11))
	switch {
	case is && a.Len == int(api.OK):
		l.sure[b.ID], l.maybe[b.ID] = b, nil
		l.seen["OK"]++
	case !is:
		l.maybe[b.ID] = append(l.maybe[b.ID], b)
		l.seen["no answer"]++
	}
}

// look fails, unless each block is what is sure, or what may be; from then on that is sure.
func (l *lasting) look() {
	for id := range 5 {
		got, _ := l.server.Get(id)
		if slices.Contains(l.maybe[id], got) {
			l.seen["not answered, and there"]++
		} else if got != l.sure[id] {
			l.Fatalf("block %d is %v; answered OK was %v, maybe %v", id, got, l.sure[id], l.maybe[id])
		}
		l.sure[id], l.maybe[id] = got, nil
		a, is := l.server.Handle(readOf(1, id), 0)
		if is && a.Len == int(api.OK) && a.Data != value(got.Ver, got.Data) {
			l.Fatalf("block %d is %v, and read as %q", id, got, a.Data)
		}
	}
}

// P13.4: what was answered OK is there behind each crash, till something newer is; of what was not answered there is all or nothing.
func TestAnsweredLasts(t *testing.T) {
	seen := map[string]int{}
	for seed := range 100 {
		l := &lasting{T: t, random: rand.New(rand.NewSource(int64(seed))), server: store.New(me, 6), sure: map[int]api.Block{}, maybe: map[int][]api.Block{}, seen: seen}
		for range 200 {
			l.anew()
			for range l.random.Intn(4) {
				l.write()
			}
			l.server.Crash(l.random.Uint64())
			l.anew()
			l.look()
		}
	}
	for _, what := range []string{"OK", "no answer", "not answered, and there"} {
		if seen[what] < 500 {
			t.Errorf("%s: %d times: the rows are too much alike", what, seen[what])
		}
	}
}
