package config

import (
	"slices"

	"weirkeep/api"
)

// kind is a kind of orders: what it changes in a config that is Apply's own, or why it may not.
type kind struct {
	change func(c *Config, o Order) api.Errno
}

// kinds tells all kinds of orders, from Kind 1 on.
func kinds() [4]kind {
	return [4]kind{{come}, {leave}, {place}, {cut}}
}

// Apply tells the config that comes of c by an order.
func Apply(c Config, o Order) (Config, api.Errno) {
	if e := Check(c); e != api.OK {
		return Config{}, e
	}
	if c.Epoch == api.MaxSeq {
		return Config{}, api.ErrMax
	}
	all := kinds()
	if o.Kind < 1 || o.Kind > len(all) {
		return Config{}, api.ErrArg
	}
	c.Servers, c.Parts = slices.Clone(c.Servers), slices.Clone(c.Parts)
	if e := all[o.Kind-1].change(&c, o); e != api.OK {
		return Config{}, e
	}
	c.Epoch++
	return c, api.OK
}

// come lets N be a server.
func come(c *Config, o Order) api.Errno {
	if !isNode(o.N) {
		return api.ErrArg
	}
	at, found := slices.BinarySearch(c.Servers, o.N)
	if found {
		return api.ErrTwice
	}
	c.Servers = slices.Insert(c.Servers, at, o.N)
	return api.OK
}

// leave lets N be no server any more; others take its place.
func leave(c *Config, o Order) api.Errno {
	at, found := slices.BinarySearch(c.Servers, o.N)
	if !found {
		return api.ErrNone
	}
	if len(c.Servers) <= minServers {
		return api.ErrLost
	}
	c.Servers = slices.Delete(c.Servers, at, at+1)
	for i := range c.Parts {
		switch p := &c.Parts[i]; o.N {
		case p.A:
			p.A = lowestBut(c.Servers, p.B)
		case p.B:
			p.B = lowestBut(c.Servers, p.A)
		}
	}
	c.Parts = join(c.Parts)
	return api.OK
}

// lowestBut tells the lowest of servers, which rise and are two at least, that is not the other copy's.
func lowestBut(servers []int, other int) int {
	if servers[0] != other {
		return servers[0]
	}
	return servers[1]
}

// place lets R's blocks have their copies on N and M.
func place(c *Config, o Order) api.Errno {
	switch {
	case o.R.From < 0 || o.R.To > api.MaxSpan || o.R.From >= o.R.To:
		return api.ErrRange
	case o.N == o.M:
		return api.ErrArg
	case !slices.Contains(c.Servers, o.N) || !slices.Contains(c.Servers, o.M):
		return api.ErrNone
	}
	var pieces []Part
	for _, p := range c.Parts {
		ahead, within, behind := p, Part{R: p.R, A: o.N, B: o.M}, p
		ahead.R.To = min(p.R.To, o.R.From)
		within.R.From, within.R.To = max(p.R.From, o.R.From), min(p.R.To, o.R.To)
		behind.R.From = max(p.R.From, o.R.To)
		pieces = append(pieces, ahead, within, behind)
	}
	c.Parts = join(pieces)
	return api.OK
}

// join puts together what has the same copies, of pieces that follow one another; those of no block go.
func join(pieces []Part) []Part {
	var parts []Part
	for _, p := range pieces {
		if p.R.From >= p.R.To {
			continue
		}
		last := len(parts) - 1
		if last >= 0 && parts[last].A == p.A && parts[last].B == p.B {
			parts[last].R.To = p.R.To
		} else {
			parts = append(parts, p)
		}
	}
	return parts
}

// cut lets locks be in N tables.
func cut(c *Config, o Order) api.Errno {
	if !areTables(o.N) {
		return api.ErrArg
	}
	c.Tables = o.N
	return api.OK
}
