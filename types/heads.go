package types

import (
	"slices"

	"lateen/api"
)

// names are names, each one once.
type names map[string]struct{}

// namesOf answers the names of l's items.
func namesOf[T any](l []T, named func(T) string) names {
	all := names{}
	for _, x := range l {
		all[named(x)] = struct{}{}
	}
	return all
}

// unlike tells whether no two items of l have one name.
func unlike[T any](l []T, named func(T) string) bool {
	return len(namesOf(l, named)) == len(l)
}

// Heads tells whether the heads of p are right.
func Heads(p api.Program) bool {
	if !unlike(p.Classes, className) || !unlike(p.Externs, externName) || !unlike(p.Funcs, funcName) {
		return false
	}
	classes := namesOf(p.Classes, className)
	for _, c := range p.Classes {
		if !classes.declare(c.Fields) {
			return false
		}
	}
	for _, f := range p.Funcs {
		if !classes.isType(f.Result) || !classes.declare(slices.Concat(f.Params, f.Vars)) {
			return false
		}
	}
	return classes.declare(p.Globals)
}

// isType tells whether t is a type, where these names are the declared classes'.
func (classes names) isType(t string) bool {
	_, ok := classes[t]
	return ok || isNumber(t)
}

// declare tells whether no two of vars have one name, and each one's type is one.
func (classes names) declare(vars []api.Var) bool {
	for _, v := range vars {
		if !classes.isType(v.Type) {
			return false
		}
	}
	return unlike(vars, varName)
}
