package show

import (
	"lateen/api"
	"lateen/syntax"
	"lateen/word"
)

// Limits of an instruction that chapter 5 names, and package api doesn't.
const (
	mostFrames  = 16
	mostObjects = 99
)

// Right tells whether p is what syntax.Parse answers for some text.
func Right(p api.Program) bool {
	return all(p.Classes, api.MaxClasses, class) &&
		all(p.Globals, api.MaxGlobals, declared) &&
		all(p.Externs, api.MaxExterns, extern) &&
		all(p.Funcs, api.MaxFuncs, function)
}

// all tells whether l has at most so many items, and each one is right.
func all[T any](l []T, most int, right func(T) bool) bool {
	if len(l) > most {
		return false
	}
	for _, x := range l {
		if !right(x) {
			return false
		}
	}
	return true
}

// nameOrNone tells whether s is a name, where there must be one, or empty, where there is none.
func nameOrNone(s string, must bool) bool {
	if must {
		return word.Name(s)
	}
	return s == ""
}

// kind tells whether s is a type's word.
func kind(s string) bool {
	return s == "int" || s == "float" || word.Name(s)
}

func declared(v api.Var) bool {
	return word.Name(v.Name) && kind(v.Type)
}

func class(c api.Class) bool {
	return word.Name(c.Name) && all(c.Fields, api.MaxFields, declared)
}

func extern(e api.Extern) bool {
	return word.Name(e.Name) && 0 <= e.N && e.N <= api.MaxFields
}

func function(f api.Func) bool {
	return word.Name(f.Name) && kind(f.Result) &&
		all(f.Params, api.MaxParams, declared) &&
		all(f.Vars, api.MaxNames, declared) &&
		short(f) && all(f.Blocks, api.MaxNodes, block)
}

// short tells whether f has a block, and no more phis and instructions than it may have.
func short(f api.Func) bool {
	long := 0
	for _, b := range f.Blocks {
		long += len(b.Phis) + len(b.Code)
	}
	return len(f.Blocks) > 0 && long <= api.MaxLong
}

// block tells whether b is right; how many phis and instructions there may be in all blocks together, short tells.
func block(b api.Block) bool {
	return word.Name(b.Name) &&
		all(b.Phis, api.MaxLong, phi) &&
		all(b.Code, api.MaxLong, instr) &&
		end(b.End)
}

func phi(p api.Phi) bool {
	return word.Name(p.Dst) && len(p.Ins) > 0 && all(p.Ins, api.MaxNodes, in)
}

func in(i api.In) bool {
	return word.Name(i.Block) && argument(i.A)
}

// argument tells whether a may stand outside of states: no virtual object may.
func argument(a api.Arg) bool {
	return a.Kind != api.KObj && word.Right(a)
}

func instr(i api.Instr) bool {
	f, ok := syntax.Of(i.Op)
	return ok && nameOrNone(i.Dst, f.Dst) && nameOrNone(i.Name, f.Named) &&
		len(i.Args) >= f.Least && all(i.Args, f.Most, argument) &&
		state(i)
}

// state tells whether the frames and objects of i are right: only a call and a guard may have any.
func state(i api.Instr) bool {
	if i.Op != api.Call && i.Op != api.Guard {
		return len(i.Frames) == 0 && len(i.Objs) == 0
	}
	return all(i.Frames, mostFrames, frame) && all(i.Objs, mostObjects, object)
}

func frame(f api.Frame) bool {
	return word.Name(f.Func) && word.Name(f.Block) &&
		0 <= f.At && f.At <= api.MaxLong &&
		all(f.Vars, api.MaxVars, bind)
}

func bind(b api.Bind) bool {
	return word.Name(b.Name) && word.Right(b.A)
}

func object(v api.Virt) bool {
	return word.Name(v.Class) && all(v.Vals, api.MaxFields, word.Right)
}

// end tells whether t has the parts that an end of its kind has, and no others.
func end(t api.Term) bool {
	switch t.Kind {
	case api.Jump:
		return none(t.A) && targets(t.To, 1) && t.N == 0
	case api.Branch:
		return argument(t.A) && targets(t.To, 2) && t.N == 0
	case api.Ret:
		return argument(t.A) && targets(t.To, 0) && t.N == 0
	case api.Trap:
		return none(t.A) && targets(t.To, 0)
	}
	return false
}

// none tells whether a is no argument at all.
func none(a api.Arg) bool {
	return a == api.Arg{}
}

// targets tells whether l is so many blocks' names.
func targets(l []string, n int) bool {
	return len(l) == n && all(l, n, word.Name)
}
