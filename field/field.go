// Package field is layer 1: numbers and texts as fields of bytes, and errors that lie under one another (doc/01-field.md).
package field

import (
	"errors"
	"slices"
	"strconv"

	"weirkeep/api"
)

// maxLevels ends a chain that comes back to itself, since Under can be set to anything; of so many levels nothing is promised.
const maxLevels = 1 << 17

// Fault is an error at a place; what lies under it is told by Unwrap.
type Fault struct {
	E     api.Errno
	At    int
	Under error
}

// Error leaves out what lies under the fault, so that it stays short however deep that is.
func (f *Fault) Error() string {
	return "error " + strconv.Itoa(int(f.E)) + " at " + strconv.Itoa(f.At)
}

// Unwrap tells what lies under the fault.
func (f *Fault) Unwrap() error { return f.Under }

// Wrap makes a fault; there is none, if e is OK.
func Wrap(e api.Errno, at int, under error) error {
	if e == api.OK {
		return nil
	}
	return &Fault{E: e, At: at, Under: under}
}

// Code tells the first number in err's chain.
func Code(err error) api.Errno {
	if numbers := Chain(err); len(numbers) > 0 {
		return numbers[0]
	}
	return api.OK
}

// Is tells whether e is in err's chain. It asks number by number, not err itself, whose own method Is may say otherwise.
func Is(err error, e api.Errno) bool {
	return e != api.OK && slices.ContainsFunc(Chain(err), func(number api.Errno) bool { return errors.Is(number, e) })
}

// Chain tells all numbers in err's chain, from err on.
func Chain(err error) []api.Errno { return follow(nil, err, 0) }

// follow appends the numbers of err's chain. What wraps several errors has their chains one behind the other, in the order in which errors.Is and errors.As look through them.
func follow(numbers []api.Errno, err error, level int) []api.Errno {
	for err != nil && level < maxLevels {
		level++
		if e, ok := own(err); ok {
			numbers = append(numbers, e)
		}
		for _, part := range joined(err) {
			numbers = follow(numbers, part, level)
		}
		err = errors.Unwrap(err)
	}
	return numbers
}

// own tells the number that err has by itself: errors.As looks under err too, so what it finds has to be err.
func own(err error) (api.Errno, bool) {
	var fault *Fault
	if errors.As(err, &fault) && err == error(fault) {
		return fault.E, true
	}
	var number api.Errno
	if errors.As(err, &number) && err == error(number) {
		return number, true
	}
	return api.OK, false
}

// joined tells what err wraps, if it wraps several, of which errors.Unwrap tells nothing.
func joined(err error) []error {
	var several interface{ Unwrap() []error }
	if errors.Unwrap(err) == nil && errors.As(err, &several) && several != nil {
		return several.Unwrap()
	}
	return nil
}
