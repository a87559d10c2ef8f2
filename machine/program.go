package machine

import (
	"lateen/api"
	"lateen/heap"
	"lateen/types"
)

// program is a program whose names are looked up but once in a run.
type program struct {
	given   api.Program
	funcs   map[string]*function // of those names that were asked for; nil, if there is no such function
	fields  map[field]int        // the places of classes' fields
	noughts map[string][]api.Val // what the fields of classes have to begin with
	globals map[string]int       // the places of globals
}

// field is the name of one, in a class.
type field struct {
	class, name string
}

// function is one whose blocks are found by their names.
type function struct {
	api.Func
	blocks map[string]*block
}

// block is one that knows to which blocks its end leads: nil, where a name is no block's.
type block struct {
	api.Block
	to  []*block
	ins map[string][]api.Arg // of the names of blocks from which it was come to: what its phis are from there
}

func lookUp(p api.Program) program {
	l := program{
		given:   p,
		funcs:   map[string]*function{},
		fields:  map[field]int{},
		noughts: map[string][]api.Val{},
		globals: map[string]int{},
	}
	for _, c := range p.Classes {
		l.class(c)
	}
	for at, v := range p.Globals {
		if _, had := l.globals[v.Name]; !had {
			l.globals[v.Name] = at
		}
	}
	return l
}

// class adds c, unless there is a class of that name already: the first one counts, of fields too.
func (p *program) class(c api.Class) {
	if _, had := p.noughts[c.Name]; had {
		return
	}
	vals := make([]api.Val, len(c.Fields))
	for at, v := range c.Fields {
		vals[at] = heap.Nought(v.Type)
		name := field{class: c.Name, name: v.Name}
		if _, had := p.fields[name]; !had {
			p.fields[name] = at
		}
	}
	p.noughts[c.Name] = vals
}

// function answers the function of that name; nil, if there is none.
func (p *program) function(name string) *function {
	f, had := p.funcs[name]
	if had {
		return f
	}
	// What types answers is new memory: so are the names that come into states from there.
	if g, ok := types.Func(p.given, name); ok {
		f = &function{Func: g, blocks: blocks(g)}
	}
	p.funcs[name] = f
	return f
}

// blocks answers those of f, by their names; of several of one name the first.
func blocks(f api.Func) map[string]*block {
	// They aren't looked up by shape.Place: that would look through all blocks anew for each name.
	all := make(map[string]*block, len(f.Blocks))
	for _, b := range f.Blocks {
		if all[b.Name] == nil {
			all[b.Name] = &block{Block: b, ins: map[string][]api.Arg{}}
		}
	}
	for _, b := range all {
		for _, name := range b.End.To {
			b.to = append(b.to, all[name])
		}
	}
	return all
}

// from answers what the phis of b are, one by one, from the block of that name.
func (b *block) from(name string) []api.Arg {
	if len(b.Phis) == 0 {
		return nil
	}
	l, had := b.ins[name]
	if had {
		return l
	}
	l = make([]api.Arg, len(b.Phis))
	for at, phi := range b.Phis {
		l[at] = phiFrom(phi, name)
	}
	b.ins[name] = l
	return l
}

// phiFrom answers what phi is from the block of that name.
func phiFrom(phi api.Phi, name string) api.Arg {
	for _, in := range phi.Ins {
		if in.Block == name {
			return in.A
		}
	}
	return api.Arg{}
}
