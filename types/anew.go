package types

import (
	"strings"

	"lateen/api"
)

// anew answers a copy of l, each item made by one; nil stays nil.
func anew[T any](l []T, one func(T) T) []T {
	if l == nil {
		return nil
	}
	own := make([]T, len(l))
	for at, x := range l {
		own[at] = one(x)
	}
	return own
}

func anewVar(v api.Var) api.Var {
	return api.Var{Name: strings.Clone(v.Name), Type: strings.Clone(v.Type)}
}

func anewClass(c api.Class) api.Class {
	return api.Class{Name: strings.Clone(c.Name), Fields: anew(c.Fields, anewVar)}
}

func anewArg(a api.Arg) api.Arg {
	a.S = strings.Clone(a.S)
	return a
}

func anewBind(b api.Bind) api.Bind {
	return api.Bind{Name: strings.Clone(b.Name), A: anewArg(b.A)}
}

func anewFrame(f api.Frame) api.Frame {
	f.Func = strings.Clone(f.Func)
	f.Block = strings.Clone(f.Block)
	f.Vars = anew(f.Vars, anewBind)
	return f
}

func anewVirt(v api.Virt) api.Virt {
	return api.Virt{Class: strings.Clone(v.Class), Vals: anew(v.Vals, anewArg)}
}

func anewInstr(i api.Instr) api.Instr {
	i.Dst = strings.Clone(i.Dst)
	i.Name = strings.Clone(i.Name)
	i.Args = anew(i.Args, anewArg)
	i.Frames = anew(i.Frames, anewFrame)
	i.Objs = anew(i.Objs, anewVirt)
	return i
}

func anewIn(i api.In) api.In {
	return api.In{Block: strings.Clone(i.Block), A: anewArg(i.A)}
}

func anewPhi(p api.Phi) api.Phi {
	return api.Phi{Dst: strings.Clone(p.Dst), Ins: anew(p.Ins, anewIn)}
}

func anewTerm(t api.Term) api.Term {
	t.A = anewArg(t.A)
	t.To = anew(t.To, strings.Clone)
	return t
}

func anewBlock(b api.Block) api.Block {
	return api.Block{
		Name: strings.Clone(b.Name),
		Phis: anew(b.Phis, anewPhi),
		Code: anew(b.Code, anewInstr),
		End:  anewTerm(b.End),
	}
}

func anewFunc(f api.Func) api.Func {
	return api.Func{
		Name:   strings.Clone(f.Name),
		Result: strings.Clone(f.Result),
		Params: anew(f.Params, anewVar),
		Vars:   anew(f.Vars, anewVar),
		Blocks: anew(f.Blocks, anewBlock),
	}
}
