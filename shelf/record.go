package shelf

import (
	"errors"
	"strings"

	"weirkeep/api"
	"weirkeep/check"
)

// A record's mark tells whether its block lies there: as a text, it begins with it.
const (
	unmarked = "\x00"
	marked   = "\x01"
)

// How many bytes each number of a record takes.
const (
	markBytes   = 1
	idBytes     = 1
	verBytes    = 8
	lengthBytes = 2
)

// Where, behind the mark, the numbers end that come ahead of the data.
const (
	idEnd     = idBytes
	verEnd    = idEnd + verBytes
	lengthEnd = verEnd + lengthBytes
)

// Record tells the bytes of a sector in which b lies, or is to lie, as the mark says. The mark has no part in the sum: it is written anew by itself.
func Record(b api.Block, mark int) (string, api.Errno) {
	if e := find(wrong(b, mark), api.ErrArg, api.ErrLong); e != api.OK {
		return "", e
	}
	numbers := toBytes(b.ID, idBytes) + toBytes(b.Ver, verBytes) + toBytes(len(b.Data), lengthBytes)
	rest := strings.Repeat("\x00", api.MaxData-len(b.Data))
	return toBytes(mark, markBytes) + check.Seal(numbers+b.Data+rest), api.OK
}

// Parse tells the block that lies in a sector of these bytes, if one does. That its record is s once more tells that no byte of s is another one, also of those that hold nothing.
func Parse(s string) (api.Block, bool) {
	sealed, is := strings.CutPrefix(s, marked)
	body, whole := check.Open(sealed)
	if !is || !whole || len(body) != lengthEnd+api.MaxData {
		return api.Block{}, false
	}
	length := min(toNumber(body[verEnd:lengthEnd]), api.MaxData)
	b := api.Block{
		ID:   toNumber(body[:idEnd]),
		Ver:  toNumber(body[idEnd:verEnd]),
		Data: body[lengthEnd : lengthEnd+length],
	}
	if again, e := Record(b, 1); e != api.OK || again != s {
		return api.Block{}, false
	}
	return b, true
}

// wrong joins all that is wrong with b and its mark.
func wrong(b api.Block, mark int) error {
	return errors.Join(
		unless(within(b.ID, 0, api.MaxSpan-1), api.ErrArg),
		unless(within(b.Ver, 1, api.MaxSeq), api.ErrArg),
		unless(within(mark, 0, 1), api.ErrArg),
		unless(len(b.Data) <= api.MaxData, api.ErrLong),
	)
}

// find looks for errors in what is joined, and tells the first one in this order that is there.
func find(joined error, order ...api.Errno) api.Errno {
	for _, e := range order {
		if errors.Is(joined, e) {
			return e
		}
	}
	return api.OK
}

// unless is no error where it holds, else e.
func unless(holds bool, e api.Errno) error {
	if holds {
		return nil
	}
	return e
}

func within(x, least, greatest int) bool { return x >= least && x <= greatest }

// toBytes tells a number in so many bytes, the lowest byte first.
func toBytes(number, bytes int) string {
	all := make([]byte, bytes)
	for i := range all {
		all[i] = byte(number >> (8 * i))
	}
	return string(all)
}

// toNumber tells the number in these bytes.
func toNumber(bytes string) int {
	number := 0
	for i := range len(bytes) {
		number |= int(bytes[i]) << (8 * i)
	}
	return number
}
