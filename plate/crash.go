package plate

import "weirkeep/api"

// Of what waits each one has so many bits of keep; those behind the last bits begin with the first ones anew.
const (
	shareBits = 4
	shares    = 64 / shareBits
	whole     = 1<<shareBits - 1
)

// Crash takes the power away; of what waits a part takes place, as keep tells.
func (p *Plate) Crash(keep uint64) {
	if p.dead {
		return
	}
	p.dead = true
	p.settle(func(j int) int { return kept(keep, j) })
}

// Cut orders that the power goes in the n-th call from now on.
func (p *Plate) Cut(n int, keep uint64) { p.order = order{left: max(n, 0), keep: keep} }

// Power gives the power back, without any order.
func (p *Plate) Power() {
	p.dead = false
	p.order = order{}
}

// count takes a call in, and answers ErrDead, if it is the last one.
func (p *Plate) count() api.Errno {
	p.calls++
	if p.order.left == 0 {
		return api.OK
	}
	p.order.left--
	if p.order.left > 0 {
		return api.OK
	}
	p.Crash(p.order.keep)
	return api.ErrDead
}

// kept is how many bytes of the j-th write take place. They are an even number, so that no pair is torn.
func kept(keep uint64, j int) int {
	share := int(keep >> (shareBits * (j % shares)) & whole)
	if share == whole {
		return api.Sector
	}
	return 2 * share
}
