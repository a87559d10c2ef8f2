// Package syntax is layer 5: programs out of texts.
package syntax

import (
	"lateen/api"
)

// Form is how an instruction is written: its word, whether it sets a variable, whether a name stands behind the word, and how many arguments it has.
type Form struct {
	Word  string
	Dst   bool
	Named bool
	Least int
	Most  int
}

// words are the instructions' words, by their numbers; that of 0 is none's.
var words = [...]string{
	api.Add: "add", api.Sub: "sub", api.Mul: "mul", api.Div: "div", api.Rem: "rem",
	api.And: "and", api.Or: "or", api.Xor: "xor", api.Shl: "shl", api.Shr: "shr",
	api.Eq: "eq", api.Ne: "ne", api.Lt: "lt", api.Le: "le",
	api.Fadd: "fadd", api.Fsub: "fsub", api.Fmul: "fmul", api.Fdiv: "fdiv",
	api.Feq: "feq", api.Flt: "flt", api.Fle: "fle",
	api.Itof: "itof", api.Ftoi: "ftoi", api.Mov: "mov",
	api.New: "new", api.Load: "load", api.Store: "store", api.Same: "same",
	api.Gload: "gload", api.Gstore: "gstore",
	api.Call: "call", api.Ext: "ext", api.Out: "out", api.Guard: "guard",
}

// Of answers the form of the instruction op, and whether it has one.
func Of(op int) (Form, bool) {
	if op < api.Add || op > api.Guard {
		return Form{}, false
	}
	f := Form{Word: words[op], Dst: sets(op), Named: named(op)}
	f.Least, f.Most = arguments(op)
	return f, true
}

// Op answers the instruction whose word w is, and whether there is one.
func Op(w string) (int, bool) {
	for op := api.Add; op <= api.Guard; op++ {
		if words[op] == w {
			return op, true
		}
	}
	return 0, false
}

// sets tells whether the instruction op sets a variable.
func sets(op int) bool {
	switch op {
	case api.Store, api.Gstore, api.Out, api.Guard:
		return false
	}
	return true
}

// named tells whether the instruction op names something that is no variable.
func named(op int) bool {
	switch op {
	case api.New, api.Load, api.Store, api.Gload, api.Gstore, api.Call, api.Ext:
		return true
	}
	return false
}

// arguments answers how many arguments the instruction op has at least, and at most.
func arguments(op int) (int, int) {
	switch op {
	case api.Gload, api.Guard:
		return 0, 0
	case api.Itof, api.Ftoi, api.Mov, api.Load, api.Gstore, api.Out:
		return 1, 1
	case api.New, api.Call, api.Ext:
		return 0, api.MaxFields
	}
	return 2, 2
}

// ahead answers how many arguments of the instruction op stand ahead of its name: the object, if the name is its field's.
func ahead(op int) int {
	switch op {
	case api.Load, api.Store:
		return 1
	}
	return 0
}
