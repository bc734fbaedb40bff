package plate_test

import (
	"math"
	"strings"
	"testing"

	"weirkeep/api"
	"weirkeep/plate"
)

// numbered is a text of so many bytes; at each place no other number up to 255 has the same byte.
func numbered(n, length int) string {
	b := make([]byte, length)
	for k := range b {
		b[k] = byte(n*33 + k*7 + 1)
	}
	return string(b)
}

// filled is a text with bytes 0 behind it, up to a sector.
func filled(s string) string { return s + strings.Repeat("\x00", 32-len(s)) }

func wantWrite(t *testing.T, p *plate.Plate, i int, s string, want api.Errno) {
	t.Helper()
	if got := p.Write(i, s); got != want {
		t.Fatalf("Write(%d, %q): %d, want %d", i, s, got, want)
	}
}

func wantSync(t *testing.T, p *plate.Plate, want api.Errno) {
	t.Helper()
	if got := p.Sync(); got != want {
		t.Fatalf("Sync: %d, want %d", got, want)
	}
}

// wantRead fails, unless the sector i is s and bytes 0.
func wantRead(t *testing.T, what string, p *plate.Plate, i int, s string) {
	t.Helper()
	if got, e := p.Read(i); got != filled(s) || e != api.OK {
		t.Fatalf("%s: Read(%d): %q, %d, want %q", what, i, got, e, filled(s))
	}
}

// wantNoRead fails, unless Read is refused by that error, and tells the empty text.
func wantNoRead(t *testing.T, p *plate.Plate, i int, want api.Errno) {
	t.Helper()
	if got, e := p.Read(i); got != "" || e != want {
		t.Fatalf("Read(%d): %q, %d, want no text, %d", i, got, e, want)
	}
}

// wantSectors fails, unless the first sectors are these and bytes 0, and all others bytes 0.
func wantSectors(t *testing.T, what string, p *plate.Plate, want ...string) {
	t.Helper()
	for i := range p.Size() {
		s := ""
		if i < len(want) {
			s = want[i]
		}
		wantRead(t, what, p, i, s)
	}
}

// wantLasting is wantSectors of what lasts: nothing of what waits takes place.
func wantLasting(t *testing.T, what string, p *plate.Plate, want ...string) {
	t.Helper()
	p.Crash(0)
	p.Power()
	wantSectors(t, what, p, want...)
}

func wantState(t *testing.T, what string, p *plate.Plate, calls int, dead bool) {
	t.Helper()
	if p.Calls() != calls || p.Dead() != dead {
		t.Fatalf("%s: Calls is %d, Dead is %t, want %d, %t", what, p.Calls(), p.Dead(), calls, dead)
	}
}

// plateOf is a plate of so many sectors, of which the first ones are these, and last.
func plateOf(t *testing.T, size int, texts ...string) *plate.Plate {
	t.Helper()
	p := plate.New(size)
	for i, s := range texts {
		wantWrite(t, p, i, s, api.OK)
	}
	wantSync(t, p, api.OK)
	return p
}

// sizes are numbers for New, and the size that is made of each.
func sizes() map[int]int {
	m := map[int]int{}
	for _, n := range []int{math.MinInt, math.MinInt32, -1 << 32, -129, -128, -5, -4, -3, -1, 0, 1, 2, 3} {
		m[n] = 4
	}
	for _, n := range []int{4, 5, 6, 7, 8, 31, 32, 33, 64, 100, 126, 127, 128} {
		m[n] = n
	}
	for _, n := range []int{129, 130, 132, 255, 256, 260, 999, 1 << 32, 1<<32 + 5, math.MaxInt32, math.MaxInt} {
		m[n] = 128
	}
	return m
}

// inside are places at and around the edges of a plate of that size.
func inside(size int) []int { return []int{0, 1, 2, size / 2, size - 2, size - 1} }

// outside are places that it has not: just outside, far outside, and such as would be there if they were cut to fewer bits, or counted from the end.
func outside(size int) []int {
	return []int{-1, -2, -size, -size - 1, math.MinInt, math.MinInt32, -1 << 32, size, size + 1, 2 * size, 128, 129, 255, 256, 257, 1 << 16, 1 << 32, 1<<32 + 1, math.MaxInt32, math.MaxInt}
}

// The document's example.
func TestExample(t *testing.T) {
	p := plate.New(4)
	wantWrite(t, p, 0, "abcd", api.OK)
	wantSync(t, p, api.OK)
	wantWrite(t, p, 0, "wxyz", api.OK)
	p.Crash(1)
	p.Power()
	wantSectors(t, "the example", p, "wxcd")
}

// P7.1: so many sectors as are asked for, at least 4, at most 128, all bytes 0, with power, nothing counted.
func TestNew(t *testing.T) {
	for n, size := range sizes() {
		p := plate.New(n)
		if p.Size() != size {
			t.Errorf("New(%d): Size is %d, want %d", n, p.Size(), size)
		}
		wantState(t, "new", p, 0, false)
		wantSectors(t, "new", p)
		for _, i := range outside(size) {
			wantNoRead(t, p, i, api.ErrRange)
		}
		wantSync(t, p, api.OK)
		wantLasting(t, "new", p)
	}
}

// P7.1: each sector has Sector bytes of its own, in plates of all sizes; Size stays.
func TestSectorsAreTheirOwn(t *testing.T) {
	for n, size := range sizes() {
		var texts []string
		for i := range size {
			texts = append(texts, numbered(i, 32))
		}
		p := plateOf(t, n, texts...)
		wantSectors(t, "all", p, texts...)
		p.Crash(0)
		if p.Size() != size {
			t.Errorf("New(%d): Size is %d without power, want %d", n, p.Size(), size)
		}
		p.Power()
		wantSectors(t, "all, lasting", p, texts...)
	}
}

// P7.1, R3: plates have nothing in common.
func TestPlatesAreTheirOwn(t *testing.T) {
	one := plateOf(t, 4, "one")
	two := plate.New(4)
	wantSectors(t, "beside one", two)
	wantWrite(t, two, 0, "two", api.OK)
	wantWrite(t, two, 1, "too", api.OK)
	wantSync(t, one, api.OK)
	wantLasting(t, "one", one, "one")
	wantState(t, "one", one, 3, false)
	two.Crash(0xff)
	wantState(t, "one, beside one without power", one, 3, false)
	two.Power()
	wantSectors(t, "two", two, "two", "too")
	one.Cut(1, 0)
	wantSync(t, two, api.OK)
	wantSync(t, one, api.ErrDead)
	wantState(t, "two, beside one without power", two, 3, false)
}

// P7.2: texts of all lengths up to a sector, with bytes 0 behind them, whatever was there.
func TestWriteLengths(t *testing.T) {
	for length := range 33 {
		for _, i := range inside(9) {
			p := plate.New(9)
			wantWrite(t, p, i, numbered(3, 32), api.OK)
			wantSync(t, p, api.OK)
			wantWrite(t, p, i, numbered(4, 32), api.OK)
			wantWrite(t, p, i, numbered(5, length), api.OK)
			wantRead(t, "waiting", p, i, numbered(5, length))
			wantSync(t, p, api.OK)
			wantRead(t, "synced", p, i, numbered(5, length))
			p.Crash(math.MaxUint64)
			p.Power()
			wantRead(t, "lasting", p, i, numbered(5, length))
		}
	}
}

// P7.2: bytes of all kinds are taken as they are, those 0, and those that are no letters too.
func TestWriteBytes(t *testing.T) {
	for _, s := range []string{"\x00", "\x00a", "a\x00b", "\xff\xfe", "ä€", strings.Repeat("\xff", 32), strings.Repeat("\x00", 32), strings.Repeat("\x00", 31) + "z", strings.Repeat("€", 10)} {
		p := plateOf(t, 4, numbered(1, 32), s)
		wantSectors(t, "bytes", p, numbered(1, 32), s)
	}
}

// P7.2: each sector can be written and no place beside them, at plates of all sizes.
func TestWriteEdges(t *testing.T) {
	for n, size := range sizes() {
		p := plate.New(n)
		for _, i := range outside(size) {
			wantWrite(t, p, i, "x", api.ErrRange)
		}
		wantState(t, "refused", p, 0, false)
		wantSectors(t, "refused", p)
		for i := range size {
			wantWrite(t, p, i, numbered(i, 5), api.OK)
			wantState(t, "written", p, i+1, false)
			wantRead(t, "written", p, i, numbered(i, 5))
		}
		wantLasting(t, "not synced", p)
	}
}

// P7.2: which error stands where there is no power, the sector is not there, and the text is too long; what is refused does not count, and changes nothing.
func TestWriteRefused(t *testing.T) {
	for _, size := range []int{4, 5, 128} {
		for _, length := range []int{0, 1, 32, 33, 34, 64, 256, 288, 1000, 5000} {
			for _, dead := range []bool{false, true} {
				for _, i := range append(inside(size), outside(size)...) {
					p := plateOf(t, size, "one", "two")
					if dead {
						p.Crash(0)
					}
					want := api.OK
					switch {
					case dead:
						want = api.ErrDead
					case i < 0 || i >= size:
						want = api.ErrRange
					case length > 32:
						want = api.ErrLong
					default:
						continue
					}
					wantWrite(t, p, i, numbered(7, length), want)
					wantState(t, "refused", p, 3, dead)
					p.Power()
					wantSectors(t, "refused", p, "one", "two")
					p.Crash(math.MaxUint64)
					p.Power()
					wantSectors(t, "refused, lasting", p, "one", "two")
				}
			}
		}
	}
}

// P7.2: what is refused takes no place among the writes that wait.
func TestRefusedDoesNotWait(t *testing.T) {
	p := plateOf(t, 4, "aaaa", "aaaa")
	wantWrite(t, p, 0, "bbbb", api.OK)
	wantWrite(t, p, 4, "cccc", api.ErrRange)
	wantWrite(t, p, 0, numbered(1, 33), api.ErrLong)
	wantWrite(t, p, 1, numbered(1, 33), api.ErrLong)
	wantWrite(t, p, 1, "dddd", api.OK)
	wantSectors(t, "refused", p, "bbbb", "dddd")
	p.Crash(0xf1)
	p.Power()
	wantSectors(t, "refused", p, "bbaa", "dddd")
}

// P7.2: Read tells what lasts, what waits ahead of it, and of that the last one; that nothing changes by it.
func TestRead(t *testing.T) {
	p := plate.New(5)
	wantWrite(t, p, 1, "one", api.OK)
	wantSectors(t, "waiting", p, "", "one")
	wantWrite(t, p, 3, "three", api.OK)
	wantWrite(t, p, 1, "more", api.OK)
	wantSectors(t, "waiting", p, "", "more", "", "three")
	wantSync(t, p, api.OK)
	wantSectors(t, "synced", p, "", "more", "", "three")
	wantWrite(t, p, 3, "", api.OK)
	wantWrite(t, p, 4, "last", api.OK)
	wantSectors(t, "waiting again", p, "", "more", "", "", "last")
	wantLasting(t, "not synced", p, "", "more", "", "three")
}

// P7.2: of what is not there, and without power, Read tells the empty text and the error: ErrDead ahead of ErrRange.
func TestReadRefused(t *testing.T) {
	for _, size := range []int{4, 5, 127, 128} {
		p := plateOf(t, size, "one")
		wantWrite(t, p, 1, "two", api.OK)
		for _, i := range outside(size) {
			wantNoRead(t, p, i, api.ErrRange)
		}
		wantState(t, "refused", p, 3, false)
		p.Crash(0xf)
		for _, i := range append(inside(size), outside(size)...) {
			wantNoRead(t, p, i, api.ErrDead)
		}
		wantState(t, "refused", p, 3, true)
		p.Power()
		wantSectors(t, "refused", p, "one", "two")
	}
}

// P7.2: one sector written many times: Read, Sync, Read tell the last one; each one before was to be read in its turn.
func TestWriteOften(t *testing.T) {
	for _, times := range []int{2, 3, 15, 16, 17, 40, 300} {
		p := plateOf(t, 4, "one", "two", "three", "four")
		for n := range times {
			wantWrite(t, p, 2, numbered(n, 32-n%33), api.OK)
			wantSectors(t, "waiting", p, "one", "two", numbered(n, 32-n%33), "four")
		}
		last := numbered(times-1, 32-(times-1)%33)
		wantSync(t, p, api.OK)
		wantSectors(t, "synced", p, "one", "two", last, "four")
		wantState(t, "synced", p, 6+times, false)
		wantLasting(t, "lasting", p, "one", "two", last, "four")
	}
}

// P7.2: Sync with nothing that waits counts, and changes nothing.
func TestSyncNothing(t *testing.T) {
	p := plate.New(4)
	for n := range 5 {
		wantSync(t, p, api.OK)
		wantState(t, "nothing", p, n+1, false)
		wantSectors(t, "nothing", p)
	}
	wantWrite(t, p, 0, "one", api.OK)
	for n := range 5 {
		wantSync(t, p, api.OK)
		wantState(t, "synced", p, n+7, false)
		wantSectors(t, "synced", p, "one")
	}
	p.Crash(math.MaxUint64)
	wantSync(t, p, api.ErrDead)
	wantState(t, "without power", p, 11, true)
	p.Power()
	wantSectors(t, "without power", p, "one")
}

// P7.2: Sync lets one write take place, and many, of several sectors, each as the last one of its sector is.
func TestSync(t *testing.T) {
	for _, count := range []int{1, 2, 3, 8, 15, 16, 17, 33, 200} {
		for _, sectors := range []int{1, 2, 3, 7} {
			p := plate.New(7)
			want := make([]string, sectors)
			for n := range count {
				i := n * n % sectors
				want[i] = numbered(n, 1+n%32)
				wantWrite(t, p, i, want[i], api.OK)
			}
			wantSync(t, p, api.OK)
			wantSectors(t, "synced", p, want...)
			wantState(t, "synced", p, count+1, false)
			wantLasting(t, "lasting", p, want...)
		}
	}
}

// P7.2: what was synced waits no more: the next writes are the first ones that wait, and what is read behind a Crash does not go back.
func TestSyncLeavesNothing(t *testing.T) {
	p := plate.New(4)
	wantWrite(t, p, 0, "aaaa", api.OK)
	wantWrite(t, p, 1, "bbbb", api.OK)
	wantSync(t, p, api.OK)
	wantWrite(t, p, 2, "cccc", api.OK)
	wantWrite(t, p, 3, "dddd", api.OK)
	p.Crash(0x1f)
	p.Power()
	wantSectors(t, "behind a Sync", p, "aaaa", "bbbb", "cccc", "dd")
	wantWrite(t, p, 0, "eeee", api.OK)
	wantSync(t, p, api.OK)
	wantWrite(t, p, 0, "ffff", api.OK)
	wantSync(t, p, api.OK)
	wantLasting(t, "synced twice", p, "ffff", "bbbb", "cccc", "dd")
}

// P7.2: Read, Size, Calls and Dead are not counted; Crash, Cut and Power are not either.
func TestNotCounted(t *testing.T) {
	p := plateOf(t, 4, "one")
	for range 3 {
		for i := range 4 {
			p.Read(i)
		}
		p.Read(-1)
		p.Size()
		p.Calls()
		p.Dead()
		p.Cut(5, 0)
		wantState(t, "asked", p, 2, false)
		p.Crash(0)
		wantState(t, "crashed", p, 2, true)
		p.Read(0)
		p.Cut(5, 0)
		p.Crash(0)
		wantState(t, "asked without power", p, 2, true)
		p.Power()
		p.Power()
		wantState(t, "with power", p, 2, false)
	}
	wantSync(t, p, api.OK)
	wantState(t, "counted on", p, 3, false)
}

// R3: what was read is not changed by later calls.
func TestToldStays(t *testing.T) {
	p := plateOf(t, 4, "one")
	lasting, _ := p.Read(0)
	wantWrite(t, p, 0, "two", api.OK)
	waiting, _ := p.Read(0)
	wantSync(t, p, api.OK)
	wantWrite(t, p, 0, "three", api.OK)
	p.Crash(0xf)
	p.Power()
	if lasting != filled("one") || waiting != filled("two") {
		t.Errorf("what was told is another one: %q, %q", lasting, waiting)
	}
	wantSectors(t, "at the end", p, "three")
}
