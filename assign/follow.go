package assign

import (
	"maps"
	"slices"

	"lateen/api"
	"lateen/flow"
)

// set is a set of variables.
type set map[string]struct{}

// has tells whether the variable of that name is in s.
func (s set) has(name string) bool {
	_, is := s[name]
	return is
}

// block is what is known of a block.
type block struct {
	phis, sets set      // what its phis set, and what its instructions do
	set        set      // what is set at its first place; nil, as long as no way has been gone to it
	lost       []string // what has been cut from that, and hasn't been told yet to those to which it leads
}

// follow answers what is known of the blocks of f, when nothing is cut any more.
func follow(f api.Func) []block {
	g := flow.Of(f)
	all := make([]block, len(g))
	for at := range all {
		all[at] = begun(f.Blocks[at])
	}
	if len(all) > 0 {
		all[0].set = parameters(f)
	}
	for _, at := range flow.Order(g) {
		for _, to := range g[at] {
			all[to].meet(all[at])
		}
	}
	spread(all, g)
	return all
}

// parameters answers the variables that are set at the first place of f.
func parameters(f api.Func) set {
	s := set{}
	for _, v := range f.Params {
		s[v.Name] = struct{}{}
	}
	return s
}

// begun answers what b tells by itself.
func begun(b api.Block) block {
	phis, sets := set{}, set{}
	for _, p := range b.Phis {
		phis[p.Dst] = struct{}{}
	}
	for _, i := range b.Code {
		// An empty Dst sets nothing, not even a variable without a name.
		if i.Dst != "" {
			sets[i.Dst] = struct{}{}
		}
	}
	return block{phis: phis, sets: sets}
}

// meet cuts what is set at b's first place by what is set there on the way from that block, to which a way has been gone.
func (b *block) meet(from block) {
	if b.set == nil {
		b.set = maps.Clone(from.set)
		maps.Copy(b.set, from.sets)
		maps.Copy(b.set, b.phis)
		return
	}
	var unset []string
	for name := range b.set {
		if !from.set.has(name) && !from.sets.has(name) {
			unset = append(unset, name)
		}
	}
	b.lose(unset)
}

// lose cuts from what is set at b's first place what is unset on a way to it, but for what its phis set; it tells whether b, which had nothing to tell, now has.
func (b *block) lose(unset []string) bool {
	had := len(b.lost) > 0
	for _, name := range unset {
		if b.set.has(name) && !b.phis.has(name) {
			delete(b.set, name)
			b.lost = append(b.lost, name)
		}
	}
	return !had && len(b.lost) > 0
}

// tell answers what has newly become unset at b's last place.
func (b *block) tell() []string {
	unset := slices.DeleteFunc(b.lost, b.sets.has)
	b.lost = nil
	return unset
}

// spread goes on from blocks to those to which they lead, again and again, as long as something is cut.
func spread(all []block, g [][]int) {
	var rest []int // those that have something to tell
	for at := range all {
		if len(all[at].lost) > 0 {
			rest = append(rest, at)
		}
	}
	for len(rest) > 0 {
		at := rest[len(rest)-1]
		rest = rest[:len(rest)-1]
		unset := all[at].tell()
		for _, to := range g[at] {
			if all[to].lose(unset) {
				rest = append(rest, to)
			}
		}
	}
}
