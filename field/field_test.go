package field_test

import (
	"errors"
	"fmt"
	"slices"
	"testing"

	"weirkeep/api"
	"weirkeep/field"
)

// around is an error of another kind that wraps one.
type around struct{ under error }

func (a around) Error() string { return "around" }
func (a around) Unwrap() error { return a.under }

// bundle is an error of another kind that wraps several, and can't be compared.
type bundle []error

func (b bundle) Error() string   { return "bundle" }
func (b bundle) Unwrap() []error { return b }

// liar says of itself that it is everything.
type liar struct{}

func (liar) Error() string { return "liar" }
func (liar) Is(error) bool { return true }
func (liar) As(target any) bool {
	switch x := target.(type) {
	case **field.Fault:
		*x = &field.Fault{E: api.ErrMax}
	case *api.Errno:
		*x = api.ErrMax
	}
	return true
}

// wantFault fails, unless err is a fault of just this.
func wantFault(t *testing.T, err error, e api.Errno, at int) *field.Fault {
	t.Helper()
	f, ok := err.(*field.Fault)
	if !ok {
		t.Fatalf("%#v is no Fault, want %d at %d", err, e, at)
	}
	if f.E != e || f.At != at {
		t.Errorf("Fault %d at %d, want %d at %d", f.E, f.At, e, at)
	}
	return f
}

// wantBare is wantFault, with nothing under it.
func wantBare(t *testing.T, err error, e api.Errno, at int) {
	t.Helper()
	if f := wantFault(t, err, e, at); f.Under != nil {
		t.Errorf("under it lies %v, want nothing", f.Under)
	}
}

// The document's list of errors, and its limits.
func TestGivenNumbers(t *testing.T) {
	errnos := []api.Errno{api.OK, api.ErrArg, api.ErrFull, api.ErrNone, api.ErrTwice, api.ErrOld, api.ErrMax, api.ErrShort, api.ErrLong, api.ErrSum, api.ErrWire, api.ErrDead, api.ErrRange, api.ErrLost, api.ErrEpoch, api.ErrFence, api.ErrHeld, api.ErrWait, api.ErrLog, api.ErrClean, api.ErrLease, api.ErrClosed, api.ErrOff, api.ErrLine}
	if want := []api.Errno{0, 1, 2, 3, 4, 5, 6, 10, 11, 20, 30, 70, 71, 110, 120, 140, 150, 170, 180, 190, 200, 210, 211, 220}; !slices.Equal(errnos, want) {
		t.Error(errnos)
	}
	limits := []int{api.Sector, api.Sectors, api.MaxData, api.MaxText, api.MaxBag, api.MaxNode, api.MaxTime, api.MaxSeq, api.MaxSpan, api.MaxLog, api.MaxQueue}
	if want := []int{32, 128, 16, 1 << 10, 64, 8, 1 << 40, 1 << 40, 256, 4096, 32}; !slices.Equal(limits, want) {
		t.Error(limits)
	}
}

// P1.1: Wrap keeps what it is given; OK makes nothing, whatever lies under it.
func TestWrap(t *testing.T) {
	under := errors.New("under")
	for _, at := range []int{0, 3, -1, 1 << 62} {
		f := wantFault(t, field.Wrap(api.ErrWire, at, under), api.ErrWire, at)
		if f.Under != under || f.Unwrap() != under {
			t.Errorf("under it lies %v", f.Under)
		}
		wantBare(t, field.Wrap(-7, at, nil), -7, at)
	}
	if err := field.Wrap(api.OK, 3, under); err != nil {
		t.Errorf("Wrap of OK: %v", err)
	}
	if err := (&field.Fault{E: api.ErrArg}).Unwrap(); err != nil {
		t.Errorf("Unwrap of a fault with nothing under it: %v", err)
	}
	_ = field.Wrap(api.ErrWire, 3, under).Error()
}

// P1.1: Code, Is and Chain of chains of all kinds.
func TestChain(t *testing.T) {
	short := field.Wrap(api.ErrShort, 1, nil)
	for _, c := range []struct {
		name string
		err  error
		want []api.Errno
	}{
		{"nothing", nil, nil},
		{"no number", errors.New("other"), nil},
		{"no number under another kind", around{around{nil}}, nil},
		{"Errno", api.ErrOld, []api.Errno{api.ErrOld}},
		{"Errno that nobody knows", api.Errno(-3), []api.Errno{-3}},
		{"Errno OK", api.OK, []api.Errno{api.OK}},
		{"Fault", short, []api.Errno{api.ErrShort}},
		{"Fault of OK", &field.Fault{Under: api.ErrArg}, []api.Errno{api.OK, api.ErrArg}},
		{"the document's example", field.Wrap(api.ErrWire, 3, short), []api.Errno{api.ErrWire, api.ErrShort}},
		{"Fault on an Errno", field.Wrap(api.ErrWire, 3, api.ErrSum), []api.Errno{api.ErrWire, api.ErrSum}},
		{"Fault on no number", field.Wrap(api.ErrWire, 3, errors.New("other")), []api.Errno{api.ErrWire}},
		{"one number twice", field.Wrap(api.ErrShort, 0, short), []api.Errno{api.ErrShort, api.ErrShort}},
		{"another kind on top", around{short}, []api.Errno{api.ErrShort}},
		{"another kind on an Errno", around{around{api.ErrLost}}, []api.Errno{api.ErrLost}},
		{"another kind between", field.Wrap(api.ErrWire, 3, around{around{field.Wrap(api.ErrArg, 0, around{api.ErrMax})}}), []api.Errno{api.ErrWire, api.ErrArg, api.ErrMax}},
		{"fmt's", fmt.Errorf("more: %w", short), []api.Errno{api.ErrShort}},
		{"joined", errors.Join(api.ErrArg, field.Wrap(api.ErrFull, 2, api.ErrMax), errors.New("other"), api.ErrOld), []api.Errno{api.ErrArg, api.ErrFull, api.ErrMax, api.ErrOld}},
		{"joined under a fault", field.Wrap(api.ErrWire, 3, errors.Join(short, api.ErrSum)), []api.Errno{api.ErrWire, api.ErrShort, api.ErrSum}},
		{"joined under another kind", around{bundle{nil, around{api.ErrSum}, short}}, []api.Errno{api.ErrSum, api.ErrShort}},
		{"bundle of nothing", bundle{}, nil},
		{"liar", liar{}, nil},
		{"liar under a fault", field.Wrap(api.ErrWire, 3, around{liar{}}), []api.Errno{api.ErrWire}},
	} {
		checkChain(t, c.name, c.err, c.want)
	}
}

func checkChain(t *testing.T, name string, err error, want []api.Errno) {
	t.Helper()
	if got := field.Chain(err); !slices.Equal(got, want) {
		t.Errorf("%s: Chain %d, want %d", name, got, want)
	}
	code := api.OK
	if len(want) > 0 {
		code = want[0]
	}
	if got := field.Code(err); got != code {
		t.Errorf("%s: Code %d, want %d", name, got, code)
	}
	for e := api.Errno(-10); e <= 230; e++ {
		is := e != api.OK && slices.Contains(want, e)
		if field.Is(err, e) != is {
			t.Errorf("%s: Is %d: %v", name, e, !is)
		}
	}
}

// P1.4: an error is told through all that is wrapped around it, by this package's functions and by the library's.
func TestThroughAll(t *testing.T) {
	inner := field.Wrap(api.ErrLost, 7, api.ErrSum)
	err := inner
	for i := range 50 {
		if i%3 == 0 {
			err = around{err}
		} else {
			err = field.Wrap(api.ErrWire, i, err)
		}
		if !field.Is(err, api.ErrLost) || !field.Is(err, api.ErrSum) || field.Is(err, api.ErrOld) {
			t.Fatalf("level %d: %d", i, field.Chain(err))
		}
		if !errors.Is(err, inner) || !errors.Is(err, api.ErrSum) {
			t.Fatalf("level %d: the library finds nothing", i)
		}
	}
	var f *field.Fault
	if !errors.As(err, &f) || f.E != api.ErrWire || f.At != 49 {
		t.Errorf("the first fault is %v", f)
	}
}

// R1: also of 2^16 levels, and of a fault that lies under itself, there is an answer.
func TestChainEnds(t *testing.T) {
	err := error(api.ErrSum)
	for range 1 << 16 {
		err = field.Wrap(api.ErrWire, 0, err)
	}
	if got := field.Chain(err); len(got) != 1<<16+1 || got[1<<16] != api.ErrSum {
		t.Errorf("%d numbers", len(got))
	}
	f := &field.Fault{E: api.ErrArg}
	f.Under = f
	if field.Code(f) != api.ErrArg || !field.Is(f, api.ErrArg) || field.Is(f, api.ErrOld) {
		t.Error("a fault under itself")
	}
}

// R3, R5: an answer is new memory, with its spare room, and the next one is the same.
func TestChainMemory(t *testing.T) {
	err := field.Wrap(api.ErrWire, 3, field.Wrap(api.ErrShort, 1, api.ErrLost))
	want := []api.Errno{api.ErrWire, api.ErrShort, api.ErrLost}
	first, second := field.Chain(err), field.Chain(err)
	clear(first[:cap(first)])
	if !slices.Equal(second, want) || !slices.Equal(field.Chain(err), want) {
		t.Errorf("%d, %d", second, field.Chain(err))
	}
}
