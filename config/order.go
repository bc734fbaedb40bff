package config

import (
	"weirkeep/api"
	"weirkeep/field"
)

// Order that changes a config: Kind 1 a server N comes, 2 a server N goes, 3 a part for R by N and M, 4 locks in N tables.
type Order struct {
	Kind, N, M int
	R          api.Range
}

// number is a field of an order: where it stands, in how many bytes it is written.
type number struct {
	value *int
	bytes int
}

// numbers tells all of o's fields in the order in which they are written: Encode and Decode go by this list, so that they can't differ.
func numbers(o *Order) [5]number {
	return [5]number{{&o.Kind, 1}, {&o.N, 2}, {&o.M, 2}, {&o.R.From, 2}, {&o.R.To, 2}}
}

// Encode tells an order as bytes. It may be whatever has room in them, also what Apply refuses.
func Encode(o Order) (string, api.Errno) {
	w := field.NewWriter()
	for _, n := range numbers(&o) {
		if err := w.Num(*n.value, n.bytes); err != nil {
			return "", field.Code(err)
		}
	}
	return w.Bytes(), api.OK
}

// Decode tells the order that was encoded as s.
func Decode(s string) (Order, api.Errno) {
	var o Order
	r := field.NewReader(s)
	for _, n := range numbers(&o) {
		value, err := r.Num(n.bytes)
		if err != nil {
			return Order{}, api.ErrWire
		}
		*n.value = value
	}
	if r.End() != nil {
		return Order{}, api.ErrWire
	}
	return o, api.OK
}

// Replay tells the config that comes of New by a log of orders. Entries that are no orders, or are refused, are passed over, so that all who have the same log have the same config.
func Replay(log []string) Config {
	c := New()
	for _, s := range log {
		o, e := Decode(s)
		if e != api.OK {
			continue
		}
		if next, e := Apply(c, o); e == api.OK {
			c = next
		}
	}
	return c
}
