package heap

import (
	"lateen/api"
)

// Alike tells whether the values a, whose heap is h, and the values b, whose heap is k, are alike.
func Alike(h []api.Object, a []api.Val, k []api.Object, b []api.Val) bool {
	p := pairing{one: h, other: k, there: map[int64]int64{}, back: map[int64]int64{}}
	return p.alike(a, b) && p.follow()
}

// pairing is which objects of two heaps must be paired, as far as that is known.
type pairing struct {
	one, other  []api.Object
	there, back map[int64]int64 // of an object's number in the one heap, and in the other one: of that with which it is paired
	rest        []int64         // the numbers, in the one heap, of objects that are paired, whose fields haven't been held against one another
}

// follow tells whether all that is paired is alike, and what must be paired for that.
func (p *pairing) follow() bool {
	for len(p.rest) > 0 {
		n := p.rest[len(p.rest)-1]
		p.rest = p.rest[:len(p.rest)-1]
		a, b := p.one[n-1], p.other[p.there[n]-1]
		if a.Class != b.Class || !p.alike(a.Vals, b.Vals) {
			return false
		}
	}
	return true
}

// alike tells whether values at the same places of a and b are alike, if the fields of those objects are that to which they lead; these are paired.
func (p *pairing) alike(a, b []api.Val) bool {
	if len(a) != len(b) {
		return false
	}
	for at := range a {
		if !p.alikeValues(a[at], b[at]) {
			return false
		}
	}
	return true
}

func (p *pairing) alikeValues(a, b api.Val) bool {
	if a.Type != b.Type {
		return false
	}
	if a.Type != "ref" {
		return a.N == b.N
	}
	if a.N == 0 || b.N == 0 {
		return a.N == b.N
	}
	if !leads(p.one, a) || !leads(p.other, b) {
		return leads(p.one, a) == leads(p.other, b)
	}
	return p.pair(a.N, b.N)
}

// pair pairs the object n of the one heap with the object m of the other one, and tells whether neither is paired with another one.
func (p *pairing) pair(n, m int64) bool {
	was, paired := p.there[n]
	from, taken := p.back[m]
	if paired || taken {
		return paired && taken && was == m && from == n
	}
	p.there[n], p.back[m] = m, n
	p.rest = append(p.rest, n)
	return true
}
