package extent

import (
	"sort"

	"weirkeep/api"
)

// search tells where the first free range stands that ends behind the place i: the one that has i, or else the next one.
func (m *Map) search(i int) int {
	return sort.Search(len(m.free), func(at int) bool { return m.free[at].To > i })
}

// holds tells whether search's answer for the place i has i.
func (m *Map) holds(at, i int) bool { return at < len(m.free) && m.free[at].From <= i }

// cutOut leaves of the free range that has r what lies ahead of r, and behind it.
func (m *Map) cutOut(at int, r api.Range) {
	f := m.free[at]
	var rest []api.Range
	if f.From < r.From {
		rest = append(rest, api.Range{From: f.From, To: r.From})
	}
	if r.To < f.To {
		rest = append(rest, api.Range{From: r.To, To: f.To})
	}
	m.replace(at, at+1, rest...)
}

// putIn makes r free, ahead of the free range at that place. With those that end, or begin, where it begins, or ends, it is one.
func (m *Map) putIn(at int, r api.Range) {
	first, behind := at, at
	if at > 0 && m.free[at-1].To == r.From {
		first--
		r.From = m.free[first].From
	}
	if at < len(m.free) && m.free[at].From == r.To {
		r.To = m.free[at].To
		behind++
	}
	m.replace(first, behind, r)
}

// replace lets ranges stand in the place of those from first on, below behind. The cut has no spare room, so that what is appended to it does not run over those that stand behind.
func (m *Map) replace(first, behind int, ranges ...api.Range) {
	m.free = append(append(m.free[:first:first], ranges...), m.free[behind:]...)
}
