package field

import "weirkeep/api"

// Reader of fields.
type Reader struct {
	all string
	at  int
}

// NewReader makes a reader that stands at the beginning of s.
func NewReader(s string) *Reader { return &Reader{all: s} }

// Num reads a number of so many bytes.
func (r *Reader) Num(bytes int) (int, error) {
	if !isWidth(bytes) {
		return 0, r.fault(api.ErrArg, nil)
	}
	if r.left() < bytes {
		return 0, r.fault(api.ErrShort, nil)
	}
	n := unite(r.all[r.at:], bytes)
	if n >= 1<<63 {
		return 0, r.fault(api.ErrLong, nil)
	}
	r.at += bytes
	return int(n), nil
}

// Text reads a text behind its length. A second reader goes ahead, so that an error leaves this one where it was.
func (r *Reader) Text() (string, error) {
	ahead := *r
	length, err := ahead.Num(2)
	if err != nil {
		return "", r.fault(Code(err), err)
	}
	if length > api.MaxText {
		return "", r.fault(api.ErrLong, nil)
	}
	if ahead.left() < length {
		return "", r.fault(api.ErrShort, nil)
	}
	r.at = ahead.at + length
	return r.all[ahead.at:r.at], nil
}

// End is an error, as long as something is left.
func (r *Reader) End() error {
	if r.left() > 0 {
		return r.fault(api.ErrLong, nil)
	}
	return nil
}

// At tells how many bytes are read.
func (r *Reader) At() int { return r.at }

func (r *Reader) left() int { return len(r.all) - r.at }

func (r *Reader) fault(e api.Errno, under error) error { return Wrap(e, r.at, under) }
