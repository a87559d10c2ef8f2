package live

import (
	"maps"
	"slices"

	"lateen/api"
)

// block is what is known of a block.
type block struct {
	to         []int    // the places of those to which it leads
	from       []int    // the places of those that lead to it, rising
	phis, sets set      // what its phis set, and what its instructions do
	ends       set      // what its end uses, and phis on the ways from it
	live       set      // what is live at its first place
	grown      []string // what of that hasn't been told yet to those that lead to it
}

// follow answers what is known of the blocks of f, when nothing grows any more.
func follow(f api.Func) []block {
	place := places(f)
	all := linked(f, place)
	layPhis(f, place, all)
	for at := range f.Blocks {
		all[at].begin(f.Blocks[at])
	}
	spread(all)
	return all
}

// linked answers the blocks of f, of which no more is known than which lead to which.
func linked(f api.Func, place map[string]int) []block {
	all := make([]block, len(f.Blocks))
	for at := range all {
		all[at] = block{phis: set{}, sets: set{}, ends: set{}}
	}
	for at := range all {
		for _, name := range f.Blocks[at].End.To {
			// Where the shape isn't right, the name may be no block's.
			if to, ok := place[name]; ok {
				all[at].to = append(all[at].to, to)
				all[to].from = append(all[to].from, at)
			}
		}
	}
	return all
}

// places answers for each name what shape.Place does, which would look through all blocks for each name anew.
func places(f api.Func) map[string]int {
	all := make(map[string]int, len(f.Blocks))
	for at := len(f.Blocks) - 1; at >= 0; at-- {
		all[f.Blocks[at].Name] = at
	}
	return all
}

// layPhis lays what the phis of f set into their own blocks, and what they use into those from which they use it.
func layPhis(f api.Func, place map[string]int, all []block) {
	for to := range f.Blocks {
		for _, p := range f.Blocks[to].Phis {
			all[to].phis.add(p.Dst)
			for _, in := range p.Ins {
				at, ok := place[in.Block]
				// A phi may name blocks that don't lead to its own, if phis aren't right: there is no way from these.
				if _, leads := slices.BinarySearch(all[to].from, at); ok && leads {
					all[at].ends.use(in.A)
				}
			}
		}
	}
}

// begin goes back over what stands in b, of which it is known what phis use on the ways from it, as if nothing were live behind these.
func (b *block) begin(given api.Block) {
	b.ends.useEnd(given.End)
	b.live = maps.Clone(b.ends)
	for _, i := range slices.Backward(given.Code) {
		b.live.goBack(i)
		if i.Dst != "" {
			b.sets.add(i.Dst)
		}
	}
	b.grown = slices.Collect(maps.Keys(b.live))
}

// spread goes through blocks backward, from each to those that lead to it, again and again, as long as what is live at a first place grows.
func spread(all []block) {
	var rest []int // those of which something hasn't been told yet
	for at := range all {
		if len(all[at].grown) > 0 {
			rest = append(rest, at)
		}
	}
	for len(rest) > 0 {
		b := &all[rest[len(rest)-1]]
		rest = rest[:len(rest)-1]
		behind := b.tell()
		for _, from := range b.from {
			told := len(all[from].grown) == 0
			all[from].need(behind)
			if told && len(all[from].grown) > 0 {
				rest = append(rest, from)
			}
		}
	}
}

// tell answers what has newly become live behind the last places of those that lead to b.
func (b *block) tell() []string {
	var news []string
	for _, name := range b.grown {
		if !b.phis.has(name) {
			news = append(news, name)
		}
	}
	b.grown = nil
	return news
}

// need tells b that these variables are live behind its last place.
func (b *block) need(behind []string) {
	for _, name := range behind {
		if !b.sets.has(name) && !b.live.has(name) {
			b.live.add(name)
			b.grown = append(b.grown, name)
		}
	}
}

// last answers what is live at the last place of the block at that place, in a set of its own.
func last(all []block, at int) set {
	s := maps.Clone(all[at].ends)
	for _, to := range all[at].to {
		for name := range all[to].live {
			if !all[to].phis.has(name) {
				s.add(name)
			}
		}
	}
	return s
}
