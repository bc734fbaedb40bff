package plate_test

import (
	"math"
	"math/rand"
	"strings"
	"testing"

	"weirkeep/api"
	"weirkeep/plate"
)

// torn is what is there behind a write, of which share, from 0 to 15, tells how much took place.
func torn(there, written string, share int) string {
	if share == 15 {
		return filled(written)
	}
	return filled(written)[:2*share] + filled(there)[2*share:]
}

// P7.3: by hand: the bits of keep, the first ones for the first write that waits; a short text's bytes 0 are written too.
func TestCrashByHand(t *testing.T) {
	for _, c := range []struct {
		keep uint64
		want [3]string
	}{
		{0x000, [3]string{"abcdefgh", "ijklmnop", "qrstuvwx"}},
		{0x001, [3]string{"ABcdefgh", "ijklmnop", "qrstuvwx"}},
		{0x002, [3]string{"ABCDefgh", "ijklmnop", "qrstuvwx"}},
		{0x003, [3]string{"ABCD\x00\x00gh", "ijklmnop", "qrstuvwx"}},
		{0x00f, [3]string{"ABCD", "ijklmnop", "qrstuvwx"}},
		{0x010, [3]string{"abcdefgh", "IJklmnop", "qrstuvwx"}},
		{0x100, [3]string{"abcdefgh", "ijklmnop", "Q\x00stuvwx"}},
		{0x321, [3]string{"ABcdefgh", "IJKLmnop", "Q\x00\x00\x00\x00\x00wx"}},
		{0xef4, [3]string{"ABCD", "IJKLMN", "Q"}},
		{0xfff, [3]string{"ABCD", "IJKLMN", "Q"}},
		{0xfffffffffffff000, [3]string{"abcdefgh", "ijklmnop", "qrstuvwx"}},
	} {
		p := plateOf(t, 4, "abcdefgh", "ijklmnop", "qrstuvwx", "yz")
		wantWrite(t, p, 0, "ABCD", api.OK)
		wantWrite(t, p, 1, "IJKLMN", api.OK)
		wantWrite(t, p, 2, "Q", api.OK)
		p.Crash(c.keep)
		wantState(t, "crashed", p, 8, true)
		p.Power()
		wantSectors(t, "by hand", p, c.want[0], c.want[1], c.want[2], "yz")
	}
}

// P7.3: each t, for the first write that waits and for later ones, with the other bits 0 and 1; behind 16 writes the bits begin anew.
func TestCrashEachPart(t *testing.T) {
	const count = 40
	for part := range 16 {
		for j := range 16 {
			for _, others := range []int{0, 15} {
				keep := uint64(0)
				for place := range 16 {
					bits := others
					if place == j {
						bits = part
					}
					keep |= uint64(bits) << (4 * place)
				}
				var there, want []string
				for n := range count {
					there = append(there, numbered(n, 32))
				}
				p := plateOf(t, 64, there...)
				for n := range count {
					written := numbered(n+100, 32)
					wantWrite(t, p, n, written, api.OK)
					if n%16 == j {
						want = append(want, torn(there[n], written, part))
					} else {
						want = append(want, torn(there[n], written, others))
					}
				}
				p.Crash(keep)
				p.Power()
				wantSectors(t, "a part", p, want...)
			}
		}
	}
}

// P7.3: of t 14 the last four bytes stay, of t 15 none does, of t 0 all do.
func TestCrashEdges(t *testing.T) {
	old, written := strings.Repeat("o", 32), strings.Repeat("w", 32)
	for keep, want := range map[uint64]string{
		0:  old,
		1:  "ww" + old[2:],
		13: written[:26] + "oooooo",
		14: written[:28] + "oooo",
		15: written,
	} {
		p := plateOf(t, 4, "", "", "", old)
		wantWrite(t, p, 3, written, api.OK)
		p.Crash(keep)
		p.Power()
		wantSectors(t, "an edge", p, "", "", "", want)
	}
}

// P7.3: writes of one sector take place in part one behind the other, each on what is there then.
func TestCrashOneSector(t *testing.T) {
	for _, c := range []struct {
		keep uint64
		want string
	}{
		{0x124, "ddccbbbbaaaa"},
		{0x421, "ddddddddaaaa"},
		{0x142, "ddccccccaaaa"},
		{0x214, "ddddbbbbaaaa"},
		{0x01f, "ccbbbbbbbbbb"},
		{0x02f, "ccccbbbbbbbb"},
		{0x2f1, "ddddcccccccc"},
		{0xf00, "dddddddddddd"},
		{0x0f0, "cccccccccccc"},
		{0xffe, "dddddddddddd"},
		{0x006, "bbbbbbbbbbbb"},
		{0x000, "aaaaaaaaaaaa"},
	} {
		p := plateOf(t, 4, "", strings.Repeat("a", 12), "x")
		for _, letter := range []string{"b", "c", "d"} {
			wantWrite(t, p, 1, strings.Repeat(letter, 12), api.OK)
		}
		p.Crash(c.keep)
		p.Power()
		wantSectors(t, "one sector", p, "", c.want, "x")
	}
}

// P7.3: writes are counted whatever their sectors.
func TestCrashCountsAllSectors(t *testing.T) {
	p := plateOf(t, 4, "aaaaaa", "aaaaaa")
	for _, w := range []struct {
		i int
		s string
	}{{1, "bbbbbb"}, {0, "cccccc"}, {1, "dddddd"}, {0, "eeeeee"}, {2, "ffffff"}} {
		wantWrite(t, p, w.i, w.s, api.OK)
	}
	p.Crash(0x3_1_1_2_2)
	p.Power()
	wantSectors(t, "of all sectors", p, "eeccaa", "ddbbaa", "ffffff")
}

// P7.3: the seventeenth write that waits goes by the same bits as the first one, on what that left.
func TestCrashBitsBeginAnew(t *testing.T) {
	for count := 1; count <= 50; count++ {
		p := plateOf(t, 4, "", strings.Repeat("a", 32))
		want := strings.Repeat("a", 32)
		for n := range count {
			i := 0
			if n%16 == 0 {
				i = 1
				want = torn(want, numbered(n, 32), 5)
			}
			wantWrite(t, p, i, numbered(n, 32), api.OK)
		}
		p.Crash(5)
		p.Power()
		wantSectors(t, "anew", p, "", want)
	}
}

// P7.3: without power Crash does nothing: what did not take place at the first one is gone.
func TestCrashWithoutPower(t *testing.T) {
	p := plateOf(t, 4, "aaaa", "aaaa")
	wantWrite(t, p, 0, "bbbb", api.OK)
	wantWrite(t, p, 1, "bbbb", api.OK)
	p.Crash(0x01)
	for _, keep := range []uint64{0, 15, 0xff, math.MaxUint64} {
		p.Crash(keep)
		wantState(t, "crashed twice", p, 5, true)
	}
	p.Power()
	wantState(t, "with power", p, 5, false)
	wantSectors(t, "crashed twice", p, "bbaa", "aaaa")
}

// P7.3: none waits behind a Crash: no Read, no Sync and no other Crash finds a write from ahead of it, and the next write is the first one.
func TestCrashLeavesNothing(t *testing.T) {
	for name, call := range map[string]func(p *plate.Plate){
		"Sync":  func(p *plate.Plate) { p.Sync() },
		"Crash": func(p *plate.Plate) { p.Crash(math.MaxUint64) },
		"none":  func(p *plate.Plate) {},
	} {
		p := plateOf(t, 4, "aaaa", "aaaa")
		wantWrite(t, p, 0, "bbbb", api.OK)
		wantWrite(t, p, 1, "cccc", api.OK)
		p.Crash(0x10)
		p.Power()
		wantSectors(t, name, p, "aaaa", "ccaa")
		call(p)
		p.Power()
		wantSectors(t, name, p, "aaaa", "ccaa")
		wantWrite(t, p, 2, "dddd", api.OK)
		p.Crash(1)
		p.Power()
		wantSectors(t, name, p, "aaaa", "ccaa", "dd")
	}
}

// P7.3: with nothing that waits Crash takes the power, and nothing else.
func TestCrashNothing(t *testing.T) {
	for _, keep := range []uint64{0, 1, math.MaxUint64} {
		p := plate.New(4)
		p.Crash(keep)
		wantState(t, "new", p, 0, true)
		p.Power()
		wantSectors(t, "new", p)
		p = plateOf(t, 4, "one", "two")
		p.Crash(keep)
		wantState(t, "synced", p, 3, true)
		p.Power()
		wantSectors(t, "synced", p, "one", "two")
	}
}

// noOrders are numbers of which Cut makes no order.
func noOrders() []int {
	return []int{0, -1, -2, -3, -1 << 32, math.MinInt32, math.MinInt, math.MinInt + 1}
}

// wantNoOrder fails, if one of many calls is the last one.
func wantNoOrder(t *testing.T, p *plate.Plate) {
	t.Helper()
	for range 30 {
		wantWrite(t, p, 3, "calls", api.OK)
		wantSync(t, p, api.OK)
	}
}

// P7.3: of n below 1 there is no order, and the elder one is gone.
func TestCutNone(t *testing.T) {
	for _, n := range noOrders() {
		p := plate.New(4)
		p.Cut(n, math.MaxUint64)
		wantNoOrder(t, p)
		for _, elder := range []int{1, 2, 5, math.MaxInt} {
			p.Cut(elder, 0)
			p.Cut(n, 0)
			wantNoOrder(t, p)
		}
		wantState(t, "no order", p, 300, false)
	}
}

// P7.3: the n-th call is the last one: a Sync. It counts, answers ErrDead, and what waits takes place as keep tells, and not else.
func TestCutSync(t *testing.T) {
	for n := 1; n <= 40; n++ {
		for part := range 16 {
			there := numbered(200, 32)
			p := plateOf(t, 4, "zero", there)
			p.Cut(n, uint64(part))
			want := there
			for k := range n - 1 {
				written := numbered(k, 32)
				wantWrite(t, p, 1, written, api.OK)
				wantState(t, "ahead of it", p, 4+k, false)
				share := 0
				if k%16 == 0 {
					share = part
				}
				want = torn(want, written, share)
			}
			wantSync(t, p, api.ErrDead)
			wantState(t, "cut", p, 3+n, true)
			wantSync(t, p, api.ErrDead)
			wantState(t, "behind it", p, 3+n, true)
			p.Power()
			wantSectors(t, "cut", p, "zero", want)
		}
	}
}

// P7.3: the n-th call is the last one: a Write. It counts, answers ErrDead, and waits ahead of the Crash.
func TestCutWrite(t *testing.T) {
	for n := 1; n <= 40; n++ {
		for part := range 16 {
			there, written := numbered(200, 32), numbered(201, 32)
			p := plateOf(t, 4, "zero", there)
			p.Cut(n, uint64(part)<<(4*((n-1)%16)))
			for k := range n - 1 {
				i := 0
				if k%16 == (n-1)%16 {
					i = 3
				}
				wantWrite(t, p, i, "calls", api.OK)
				wantState(t, "ahead of it", p, 4+k, false)
			}
			wantWrite(t, p, 1, written, api.ErrDead)
			wantState(t, "cut", p, 3+n, true)
			wantNoRead(t, p, 1, api.ErrDead)
			p.Power()
			wantRead(t, "another sector", p, 0, "zero")
			wantRead(t, "cut", p, 1, torn(there, written, part))
		}
	}
}

// P7.3: by hand: Syncs ahead of the last call let what waits take place, and the bits are of what waits then.
func TestCutBehindSyncs(t *testing.T) {
	p := plate.New(4)
	p.Cut(4, 0x1f)
	wantWrite(t, p, 0, "aaaa", api.OK)
	wantSync(t, p, api.OK)
	wantWrite(t, p, 1, "bbbb", api.OK)
	wantWrite(t, p, 2, "cccc", api.ErrDead)
	p.Power()
	wantSectors(t, "a Write", p, "aaaa", "bbbb", "cc")
	p.Cut(3, 0)
	wantWrite(t, p, 0, "dddd", api.OK)
	wantSync(t, p, api.OK)
	wantSync(t, p, api.ErrDead)
	p.Power()
	wantSectors(t, "a Sync", p, "dddd", "bbbb", "cc")
	wantNoOrder(t, p)
}

// P7.3: the last call's keep is the order's own, with writes that waited when it was given.
func TestCutWithWritesThatWait(t *testing.T) {
	p := plateOf(t, 4, "aaaa", "aaaa", "aaaa")
	wantWrite(t, p, 0, "bbbb", api.OK)
	wantWrite(t, p, 1, "bbbb", api.OK)
	p.Cut(1, 0xf01)
	wantWrite(t, p, 2, "bbbb", api.ErrDead)
	p.Power()
	wantSectors(t, "waited", p, "bbaa", "aaaa", "bbbb")
}

// P7.3: an order stands in the place of an elder one: its own n, from then on, and its own keep.
func TestCutAnew(t *testing.T) {
	for elder := 1; elder <= 6; elder++ {
		for between := range elder {
			for n := 1; n <= 8; n++ {
				p := plateOf(t, 4, "aaaa")
				p.Cut(elder, 15)
				for range between {
					wantSync(t, p, api.OK)
				}
				p.Cut(n, 1)
				for range n - 1 {
					wantSync(t, p, api.OK)
				}
				wantWrite(t, p, 0, "bbbb", api.ErrDead)
				wantState(t, "cut", p, 2+between+n, true)
				p.Power()
				wantSectors(t, "anew", p, "bbaa")
				wantNoOrder(t, p)
			}
		}
	}
}

// P7.3: refused calls, and such as do not count, do not bring the last call nearer.
func TestCutCountsWhatCounts(t *testing.T) {
	long := numbered(1, 33)
	p := plateOf(t, 4, "aaaa")
	p.Cut(3, 0xf)
	for k := range 3 {
		for range 5 {
			wantWrite(t, p, -1, "", api.ErrRange)
			wantWrite(t, p, 4, long, api.ErrRange)
			wantWrite(t, p, 0, long, api.ErrLong)
			wantNoRead(t, p, 4, api.ErrRange)
			p.Read(0)
			p.Size()
			wantState(t, "not counted", p, 2+k, false)
		}
		if k < 2 {
			wantSync(t, p, api.OK)
		}
	}
	wantWrite(t, p, 0, "bbbb", api.ErrDead)
	p.Power()
	wantSectors(t, "counted", p, "bbbb")
}

// P7.3: an order that is far away stays away.
func TestCutFar(t *testing.T) {
	for _, n := range []int{61, 1 << 16, 1<<32 + 1, math.MaxInt32, math.MaxInt - 1, math.MaxInt} {
		p := plate.New(4)
		p.Cut(n, 0)
		wantNoOrder(t, p)
	}
	p := plate.New(4)
	p.Cut(61, 0)
	wantNoOrder(t, p)
	wantSync(t, p, api.ErrDead)
}

// P7.3: when there is power again, no order is there: one that took place, one that a Crash came ahead of, one that was given without power.
func TestPowerTakesOrders(t *testing.T) {
	for name, lose := range map[string]func(p *plate.Plate){
		"took place":    func(p *plate.Plate) { p.Cut(1, 0); p.Sync() },
		"crashed ahead": func(p *plate.Plate) { p.Cut(2, 0); p.Sync(); p.Crash(0) },
		"without power": func(p *plate.Plate) { p.Crash(0); p.Cut(1, 0) },
		"both":          func(p *plate.Plate) { p.Cut(3, 0); p.Crash(0); p.Cut(2, 0); p.Sync(); p.Write(0, "") },
	} {
		p := plateOf(t, 4, "one", "two", "three", "four")
		lose(p)
		if !p.Dead() {
			t.Errorf("%s: there is power", name)
		}
		p.Power()
		wantSectors(t, name, p, "one", "two", "three", "four")
		wantNoOrder(t, p)
		p.Cut(2, 0)
		wantSync(t, p, api.OK)
		wantSync(t, p, api.ErrDead)
	}
}

// P7.3: where there was power, Power takes the order, and what waits stays as it is.
func TestPowerWithPower(t *testing.T) {
	p := plateOf(t, 4, "aaaa", "aaaa", "aaaa")
	wantWrite(t, p, 0, "bbbb", api.OK)
	p.Cut(1, 0xfff)
	p.Power()
	wantState(t, "with power", p, 5, false)
	wantSectors(t, "with power", p, "bbbb", "aaaa", "aaaa")
	wantWrite(t, p, 1, "cccc", api.OK)
	p.Power()
	wantWrite(t, p, 2, "dddd", api.OK)
	wantState(t, "with power", p, 7, false)
	p.Crash(0x1f1)
	p.Power()
	p.Power()
	wantSectors(t, "with power", p, "bbaa", "cccc", "ddaa")
	wantNoOrder(t, p)
}

// P7.3: on a new plate Power changes nothing.
func TestPowerNew(t *testing.T) {
	p := plate.New(4)
	p.Power()
	wantState(t, "new", p, 0, false)
	wantSectors(t, "new", p)
	wantNoOrder(t, p)
}

// paired is a text in each pair of which the second byte is the first one's other; which one it is the number tells.
func paired(n int) string { return strings.Repeat(string([]byte{byte(n), ^byte(n)}), 16) }

// P7.4: two bytes, the first one's place even, are of one write, or of none.
func TestPairsStayWhole(t *testing.T) {
	random := rand.New(rand.NewSource(1))
	for range 300 {
		p := plate.New(6)
		for i := range 6 {
			wantWrite(t, p, i, paired(i), api.OK)
		}
		wantSync(t, p, api.OK)
		n := 6
		for range 10 {
			count := random.Intn(25)
			p.Cut(count+1, random.Uint64())
			for range count {
				wantWrite(t, p, random.Intn(6), paired(n), api.OK)
				n++
			}
			wantSync(t, p, api.ErrDead)
			p.Power()
			for i := range 6 {
				s, _ := p.Read(i)
				for k := 0; k < 32; k += 2 {
					if s[k]^s[k+1] != 0xff {
						t.Fatalf("sector %d is torn at %d: %q", i, k, s)
					}
				}
			}
		}
	}
}

// P7.4: what was synced lasts in sectors that were not written behind, whatever keep is, however the power goes.
func TestSyncedLasts(t *testing.T) {
	random := rand.New(rand.NewSource(2))
	for range 500 {
		size := 4 + random.Intn(20)
		var texts []string
		for i := range size {
			texts = append(texts, numbered(i, random.Intn(33)))
		}
		p := plateOf(t, size, texts...)
		written := map[int]bool{}
		for n := range random.Intn(40) {
			i := random.Intn(size)
			written[i] = true
			wantWrite(t, p, i, numbered(n+50, 32), api.OK)
		}
		if random.Intn(2) == 0 {
			p.Cut(1, random.Uint64())
			wantSync(t, p, api.ErrDead)
		}
		p.Crash(random.Uint64())
		p.Power()
		for i, s := range texts {
			if !written[i] {
				wantRead(t, "synced", p, i, s)
			}
		}
	}
}
