package types

import (
	"strings"

	"lateen/api"
	"lateen/syntax"
)

// The types that no class is.
const (
	integer = "int"
	float   = "float"
	null    = "null"
)

// leastTrap is the least number of a trap that is written: lesser ones are the machine's own.
const leastTrap = 10

// Of answers the type of the argument a in f, and whether it has one.
func Of(f api.Func, a api.Arg) (string, bool) {
	t, ok := typeOf(f, a)
	return strings.Clone(t), ok
}

// typeOf is Of, but for the memory that it shares.
func typeOf(f api.Func, a api.Arg) (string, bool) {
	switch a.Kind {
	case api.KVar:
		v, ok := variable(f, a.S)
		return v.Type, ok
	case api.KInt:
		return integer, true
	case api.KFloat:
		return float, true
	case api.KNull:
		return null, true
	}
	return "", false
}

// typesOf answers the types of the arguments l in f, and whether each has one.
func typesOf(f api.Func, l []api.Arg) ([]string, bool) {
	var types []string
	for _, a := range l {
		t, ok := typeOf(f, a)
		if !ok {
			return nil, false
		}
		types = append(types, t)
	}
	return types, true
}

// Fits tells whether the type have fits the type want.
func Fits(have, want string) bool {
	return have == want || have == null && !isNumber(want)
}

func isNumber(t string) bool {
	return t == integer || t == float
}

// Instr tells whether i, in the function f of p, has its types.
func Instr(p api.Program, f api.Func, i api.Instr) bool {
	form, ok := syntax.Of(i.Op)
	if !ok || len(i.Args) < form.Least || len(i.Args) > form.Most {
		return false
	}
	dst, ok := variable(f, i.Dst)
	if form.Dst && !ok {
		return false
	}
	args, ok := typesOf(f, i.Args)
	return ok && suits(p, i, args, dst.Type)
}

// suits tells whether the types args of i's arguments, and dst of its Dst, if it has one, are those that i must be given.
func suits(p api.Program, i api.Instr, args []string, dst string) bool {
	switch i.Op {
	case api.Mov:
		return Fits(args[0], dst)
	case api.New:
		c, ok := find(p.Classes, i.Name, className)
		return ok && c.Name == dst && (len(args) == 0 || allFit(args, c.Fields))
	case api.Load:
		v, ok := fieldOf(p, i, args[0])
		return ok && v.Type == dst
	case api.Store:
		v, ok := fieldOf(p, i, args[0])
		return ok && Fits(args[1], v.Type)
	case api.Same:
		// The chapter names no type of Dst here; but what stands in it is 1 or 0, by chapters 16 and 26, and an optimised program is valid.
		return mayBeSame(args[0], args[1]) && dst == integer
	case api.Gload:
		v, ok := find(p.Globals, i.Name, varName)
		return ok && v.Type == dst
	case api.Gstore:
		v, ok := find(p.Globals, i.Name, varName)
		return ok && Fits(args[0], v.Type)
	case api.Call:
		f, ok := find(p.Funcs, i.Name, funcName)
		return ok && allFit(args, f.Params) && f.Result == dst
	case api.Ext:
		e, ok := find(p.Externs, i.Name, externName)
		return ok && len(args) == e.N && allAre(args, integer) && dst == integer
	case api.Out:
		return isNumber(args[0])
	case api.Guard:
		return true
	}
	from, to := ofNumbers(i.Op)
	return allAre(args, from) && dst == to
}

// ofNumbers answers the type of the arguments of op, one of Add to Ftoi, and of what it answers.
func ofNumbers(op int) (string, string) {
	switch {
	case op <= api.Le:
		return integer, integer
	case op <= api.Fdiv:
		return float, float
	case op == api.Itof:
		return integer, float
	}
	return float, integer
}

// fieldOf answers the field that i, a Load or a Store, names of the variable that is its first argument, whose type is t.
func fieldOf(p api.Program, i api.Instr, t string) (api.Var, bool) {
	if i.Args[0].Kind != api.KVar {
		return api.Var{}, false
	}
	return field(p, t, i.Name)
}

// mayBeSame tells whether what has the types a and b may be held against one another as objects.
func mayBeSame(a, b string) bool {
	return !isNumber(a) && !isNumber(b) && (a == b || a == null || b == null)
}

// allFit tells whether there is one type for each of vars, and each fits its.
func allFit(types []string, vars []api.Var) bool {
	if len(types) != len(vars) {
		return false
	}
	for at, t := range types {
		if !Fits(t, vars[at].Type) {
			return false
		}
	}
	return true
}

func allAre(types []string, want string) bool {
	for _, t := range types {
		if t != want {
			return false
		}
	}
	return true
}

// End tells whether t, in the function f, has its types.
func End(f api.Func, t api.Term) bool {
	switch t.Kind {
	case api.Jump:
		return true
	case api.Branch:
		have, ok := typeOf(f, t.A)
		return ok && have == integer
	case api.Ret:
		have, ok := typeOf(f, t.A)
		return ok && Fits(have, f.Result)
	case api.Trap:
		return t.N >= leastTrap
	}
	return false
}
