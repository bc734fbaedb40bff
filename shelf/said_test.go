package shelf_test

import (
	"cmp"
	"encoding/binary"
	"fmt"
	"hash/crc32"
	"math"
	"slices"
	"strings"
	"testing"

	"weirkeep/api"
	"weirkeep/plate"
	"weirkeep/shelf"
)

func block(id, ver int, data string) api.Block { return api.Block{ID: id, Ver: ver, Data: data} }

// told is a block in few words.
func told(b api.Block) string { return fmt.Sprintf("(%d, %d, %.40q)", b.ID, b.Ver, b.Data) }

// sealed is a mark, a body, and the body's sum as the library has it.
func sealed(mark byte, body string) string {
	sum := crc32.ChecksumIEEE([]byte(body))
	return string([]byte{mark}) + body + string(binary.LittleEndian.AppendUint32(nil, sum))
}

// saidBody is a record's bytes between the mark and the sum, of whatever numbers.
func saidBody(id byte, ver uint64, length uint16, data string) string {
	body := binary.LittleEndian.AppendUint64([]byte{id}, ver)
	body = binary.LittleEndian.AppendUint16(body, length)
	return string(body) + data
}

// saidRecord is the record of a block that may be.
func saidRecord(b api.Block, mark int) string {
	data := b.Data + strings.Repeat("\x00", 16-len(b.Data))
	return sealed(byte(mark), saidBody(byte(b.ID), uint64(b.Ver), uint16(len(b.Data)), data))
}

// on and off are a block's record with mark 1, and with mark 0.
func on(b api.Block) string  { return saidRecord(b, 1) }
func off(b api.Block) string { return saidRecord(b, 0) }

// saidParse is the block whose record with mark 1 is s, field by field.
func saidParse(s string) (api.Block, bool) {
	if len(s) != 32 || s[0] != 1 || sealed(1, s[1:28]) != s {
		return api.Block{}, false
	}
	ver := binary.LittleEndian.Uint64([]byte(s[2:10]))
	length := int(binary.LittleEndian.Uint16([]byte(s[10:12])))
	if ver == 0 || ver > 1<<40 || length > 16 || strings.Trim(s[12+length:28], "\x00") != "" {
		return api.Block{}, false
	}
	return block(int(s[1]), int(ver), s[12:12+length]), true
}

// other is s with the byte at that place changed by some bits.
func other(s string, at int, bits byte) string {
	b := []byte(s)
	b[at] ^= bits
	return string(b)
}

// filled is a text with bytes 0 behind it, up to a sector.
func filled(s string) string { return s + strings.Repeat("\x00", 32-len(s)) }

// torn is what is there behind a write, of which share, from 0 to 15, tells how much took place.
func torn(there, written string, share int) string {
	if share == 15 {
		return filled(written)
	}
	return filled(written)[:2*share] + filled(there)[2*share:]
}

// good are blocks that may be, at and around the edges.
func good() []api.Block {
	var list []api.Block
	for _, id := range []int{0, 1, 2, 127, 128, 254, 255} {
		for _, ver := range []int{1, 2, 255, 256, 258, 1<<32 - 1, 1 << 32, 0x0102030405, 1<<40 - 1, 1 << 40} {
			for _, data := range []string{"", "\x00", "\xff", "a", "ab", "\x00a\x00", "0123456789abcde", "0123456789abcdef", strings.Repeat("\x00", 16), strings.Repeat("\xff", 16)} {
				list = append(list, block(id, ver, data))
			}
		}
	}
	return list
}

// plateOf is a plate of so many sectors, of which the first ones are these, and last.
func plateOf(t *testing.T, size int, texts ...string) *plate.Plate {
	t.Helper()
	p := plate.New(size)
	for i, s := range texts {
		if e := p.Write(i, s); e != api.OK {
			t.Fatalf("Write %d: %d", i, e)
		}
	}
	if e := p.Sync(); e != api.OK {
		t.Fatalf("Sync: %d", e)
	}
	return p
}

func openOf(t *testing.T, p *plate.Plate) *shelf.Shelf {
	t.Helper()
	s, e := shelf.Open(p)
	if s == nil || e != api.OK {
		t.Fatalf("Open: %v, %d", s, e)
	}
	return s
}

// shelfOf is a shelf on a new plate, on which these blocks were put.
func shelfOf(t *testing.T, size int, blocks ...api.Block) (*plate.Plate, *shelf.Shelf) {
	t.Helper()
	p := plate.New(size)
	s := openOf(t, p)
	for _, b := range blocks {
		wantPut(t, s, b, api.OK)
	}
	return p, s
}

func wantPut(t *testing.T, s *shelf.Shelf, b api.Block, want api.Errno) {
	t.Helper()
	if got := s.Put(b); got != want {
		t.Fatalf("Put %s: %d, want %d", told(b), got, want)
	}
}

func wantDrop(t *testing.T, s *shelf.Shelf, id int, want api.Errno) {
	t.Helper()
	if got := s.Drop(id); got != want {
		t.Fatalf("Drop(%d): %d, want %d", id, got, want)
	}
}

// noIDs are numbers that no block has, among them such as were one if they were cut to a byte.
func noIDs() []int {
	return []int{-1, -2, -256, math.MinInt, 256, 257, 258, 511, 512, 1 << 32, 1<<32 + 1, math.MaxInt}
}

// wantShelf fails, unless on the shelf of a plate of that size just these blocks lie.
func wantShelf(t *testing.T, what string, s *shelf.Shelf, size int, blocks ...api.Block) {
	t.Helper()
	blocks = slices.Clone(blocks)
	slices.SortFunc(blocks, func(a, b api.Block) int { return cmp.Compare(a.ID, b.ID) })
	if got := s.List(); !slices.Equal(got, blocks) {
		t.Fatalf("%s: List is %v, want %v", what, got, blocks)
	}
	if got := s.Free(); got != size-len(blocks) {
		t.Fatalf("%s: Free is %d, want %d", what, got, size-len(blocks))
	}
	lies := map[int]api.Block{}
	for _, b := range blocks {
		lies[b.ID] = b
	}
	for id := range 256 {
		want := api.ErrNone
		if _, ok := lies[id]; ok {
			want = api.OK
		}
		if got, e := s.Get(id); got != lies[id] || e != want {
			t.Fatalf("%s: Get(%d) is %v, %d, want %v, %d", what, id, got, e, lies[id], want)
		}
	}
	for _, id := range noIDs() {
		if got, e := s.Get(id); got != (api.Block{}) || e != api.ErrNone {
			t.Fatalf("%s: Get(%d) is %v, %d", what, id, got, e)
		}
	}
}

func wantBad(t *testing.T, what string, s *shelf.Shelf, want ...int) {
	t.Helper()
	if got := s.Bad(); !slices.Equal(got, want) {
		t.Fatalf("%s: Bad is %v, want %v", what, got, want)
	}
}

// wantSectors fails, unless the first sectors, as they are read, are these and bytes 0, and all others bytes 0.
func wantSectors(t *testing.T, what string, p *plate.Plate, want ...string) {
	t.Helper()
	for i := range p.Size() {
		s := ""
		if i < len(want) {
			s = want[i]
		}
		if got, e := p.Read(i); got != filled(s) || e != api.OK {
			t.Fatalf("%s: sector %d is %q, %d, want %q", what, i, got, e, filled(s))
		}
	}
}

// wantLasting is wantSectors of what lasts: nothing of what waits takes place.
func wantLasting(t *testing.T, what string, p *plate.Plate, want ...string) {
	t.Helper()
	p.Crash(0)
	p.Power()
	wantSectors(t, what, p, want...)
}
