package field

import "weirkeep/api"

// Writer of fields.
type Writer struct{ written []byte }

// NewWriter makes a writer that has written nothing.
func NewWriter() *Writer { return &Writer{} }

// Num writes n in so many bytes.
func (w *Writer) Num(n, bytes int) error {
	if !isWidth(bytes) || n < 0 || uint64(n)>>(8*bytes) != 0 {
		return w.fault(api.ErrArg)
	}
	w.put(n, bytes)
	return nil
}

// Text writes s behind its length.
func (w *Writer) Text(s string) error {
	if len(s) > api.MaxText {
		return w.fault(api.ErrLong)
	}
	w.put(len(s), 2)
	w.written = append(w.written, s...)
	return nil
}

// Bytes tells all that is written.
func (w *Writer) Bytes() string { return string(w.written) }

func (w *Writer) put(n, bytes int) {
	parts := split(uint64(n), bytes)
	w.written = append(w.written, parts[:bytes]...)
}

func (w *Writer) fault(e api.Errno) error { return Wrap(e, len(w.written), nil) }
