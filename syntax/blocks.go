package syntax

import (
	"lateen/api"
	"lateen/word"
)

func (r *reader) block() {
	r.stands(params | vars | ended)
	f := r.lastFunc()
	f.Blocks = append(f.Blocks, api.Block{Name: r.name()})
	r.limit(len(f.Blocks), api.MaxNodes)
	r.place = phis
}

func (r *reader) lastBlock() *api.Block {
	f := r.lastFunc()
	return &f.Blocks[len(f.Blocks)-1]
}

// lengthen tells that a phi or an instruction is there more.
func (r *reader) lengthen() {
	r.long++
	r.limit(r.long, api.MaxLong)
}

func (r *reader) phi() {
	r.stands(phis)
	p := api.Phi{Dst: r.name()}
	p.Ins = append(p.Ins, r.in())
	for len(r.rest) > 0 {
		p.Ins = append(p.Ins, r.in())
	}
	r.limit(len(p.Ins), api.MaxNodes)
	b := r.lastBlock()
	b.Phis = append(b.Phis, p)
	r.lengthen()
}

// in takes a block, and what a phi is from there.
func (r *reader) in() api.In {
	from := r.name()
	return api.In{Block: from, A: r.argument()}
}

// set reads an instruction that sets a variable.
func (r *reader) set() {
	if !word.Name(r.first) {
		refuse(api.ErrSyntax)
	}
	r.next()
	r.instruction(r.first, r.next())
}

// act reads an instruction that sets none.
func (r *reader) act() {
	r.instruction("", r.first)
}

// instruction reads what stands behind an instruction's word; dst is the variable that it sets, or empty.
func (r *reader) instruction(dst, w string) {
	r.stands(inside)
	op, ok := Op(w)
	f, _ := Of(op)
	if !ok || f.Dst != (dst != "") {
		refuse(api.ErrSyntax)
	}
	i := api.Instr{Op: op, Dst: dst}
	for range ahead(op) {
		i.Args = append(i.Args, r.argument())
	}
	if f.Named {
		i.Name = r.name()
	}
	for len(r.rest) > 0 {
		i.Args = append(i.Args, r.argument())
	}
	if len(i.Args) < f.Least || len(i.Args) > f.Most {
		refuse(api.ErrSyntax)
	}
	b := r.lastBlock()
	b.Code = append(b.Code, i)
	r.lengthen()
	r.place = behindInstr(op)
}

// behindInstr is the place behind the instruction op: only some may have a state.
func behindInstr(op int) int {
	if op == api.Call || op == api.Guard {
		return frames
	}
	return code
}

func (r *reader) lastInstr() *api.Instr {
	b := r.lastBlock()
	return &b.Code[len(b.Code)-1]
}

func (r *reader) frame() {
	r.stands(frames)
	f := api.Frame{Func: r.name()}
	f.Block = r.name()
	f.At = r.count(api.MaxLong)
	for len(r.rest) > 0 {
		name := r.name()
		f.Vars = append(f.Vars, api.Bind{Name: name, A: r.value()})
	}
	r.limit(len(f.Vars), api.MaxVars)
	i := r.lastInstr()
	i.Frames = append(i.Frames, f)
	r.limit(len(i.Frames), mostFrames)
}

func (r *reader) object() {
	r.stands(frames | objs)
	v := api.Virt{Class: r.name()}
	for len(r.rest) > 0 {
		v.Vals = append(v.Vals, r.value())
	}
	// How many fields there are is part of the line's form, and no limit of its own.
	if len(v.Vals) > api.MaxFields {
		refuse(api.ErrSyntax)
	}
	i := r.lastInstr()
	i.Objs = append(i.Objs, v)
	r.limit(len(i.Objs), mostObjects)
	r.place = objs
}

func (r *reader) jump() {
	to := r.name()
	r.end(api.Term{Kind: api.Jump, To: []string{to}})
}

func (r *reader) branch() {
	a := r.argument()
	yes := r.name()
	no := r.name()
	r.end(api.Term{Kind: api.Branch, A: a, To: []string{yes, no}})
}

func (r *reader) ret() {
	r.end(api.Term{Kind: api.Ret, A: r.argument()})
}

func (r *reader) trap() {
	r.end(api.Term{Kind: api.Trap, N: r.number()})
}

// end ends the block.
func (r *reader) end(t api.Term) {
	r.stands(inside)
	r.lastBlock().End = t
	r.place = ended
}
