package types_test

import (
	"math"
	"reflect"
	"slices"
	"strings"
	"testing"

	"lateen/api"
	"lateen/syntax"
	"lateen/types"
)

func number(n int64) api.Arg    { return api.Arg{Kind: api.KInt, N: n} }
func variable(s string) api.Arg { return api.Arg{Kind: api.KVar, S: s} }
func object(n int64) api.Arg    { return api.Arg{Kind: api.KObj, N: n} }
func float() api.Arg            { return api.Arg{Kind: api.KFloat, N: 0x3ff0000000000000} }
func null() api.Arg             { return api.Arg{Kind: api.KNull} }

// parsed answers the program of a text that is one.
func parsed(t testing.TB, text string) api.Program {
	t.Helper()
	p, at, e := syntax.Parse(text)
	if e != api.OK {
		t.Fatalf("line %d: %d in\n%s", at, e, text)
	}
	return p
}

// twice declares things of one name of each kind, which are told apart by what is in them; and things of several kinds of one name.
const twice = `class P
field a int
field n P
field a float
class Q
class P
field a Q
field z int
class x
field x x
global g int
global P float
global g float
global x P
extern e 1
extern e 2
extern x 3
func f int
param k int
param k float
param p P
var k P
var x int
var x float
block b
phi x b k
x = new P 1 null
z = call f 1 x
at f b 4 x #0 k 5
obj P 1 #0
branch k b b
func f float
block c
jump c
func x P
block d
ret null
`

// is holds what was found against the item that must be.
func is[T any](t *testing.T, what string, got T, ok bool, want T) {
	t.Helper()
	if !ok || !reflect.DeepEqual(got, want) {
		t.Errorf("%s: %v and\n%+v, not\n%+v", what, ok, got, want)
	}
}

// isNone holds that nothing was found.
func isNone[T any](t *testing.T, what string, got T, ok bool) {
	t.Helper()
	if ok || !reflect.ValueOf(got).IsZero() {
		t.Errorf("%s: %v and %+v, where there is none", what, ok, got)
	}
}

// The first one of its name is found, whatever there is of that name behind it or among other kinds.
func TestFirstOfOneName(t *testing.T) {
	p := parsed(t, twice)
	for name, at := range map[string]int{"P": 0, "Q": 1, "x": 3} {
		c, ok := types.Class(p, name)
		is(t, "class "+name, c, ok, p.Classes[at])
	}
	for name, at := range map[string]int{"g": 0, "P": 1, "x": 3} {
		v, ok := types.Global(p, name)
		is(t, "global "+name, v, ok, p.Globals[at])
	}
	for name, at := range map[string]int{"e": 0, "x": 2} {
		e, ok := types.Extern(p, name)
		is(t, "extern "+name, e, ok, p.Externs[at])
	}
	for name, at := range map[string]int{"f": 0, "x": 2} {
		f, ok := types.Func(p, name)
		is(t, "func "+name, f, ok, p.Funcs[at])
	}
	for names, v := range map[[2]string]api.Var{
		{"P", "a"}: {Name: "a", Type: "int"},
		{"P", "n"}: {Name: "n", Type: "P"},
		{"x", "x"}: {Name: "x", Type: "x"},
	} {
		got, ok := types.Field(p, names[0], names[1])
		is(t, "field "+names[0]+" "+names[1], got, ok, v)
	}
}

// What isn't declared isn't found: what another kind's name is, nor a piece of a name; nor a field of a second class of one name.
func TestNoneOfThatName(t *testing.T) {
	var classes, globals, externs, funcs, fields []string
	names := []string{"P", "Q", "x", "g", "e", "f", "a", "n", "z", "", "p", "PP", "P ", " P", "int", "float", "null", "b", "g ", "ge", "k", "E", "F", "G", "\x00", "P\x00", strings.Repeat("P", 1<<16)}
	hold := func(p api.Program) {
		for _, name := range names {
			if !slices.Contains(classes, name) {
				c, ok := types.Class(p, name)
				isNone(t, "class "+name, c, ok)
			}
			if !slices.Contains(globals, name) {
				v, ok := types.Global(p, name)
				isNone(t, "global "+name, v, ok)
			}
			if !slices.Contains(externs, name) {
				e, ok := types.Extern(p, name)
				isNone(t, "extern "+name, e, ok)
			}
			if !slices.Contains(funcs, name) {
				f, ok := types.Func(p, name)
				isNone(t, "func "+name, f, ok)
			}
			for _, class := range names {
				if !slices.Contains(fields, class+"."+name) {
					v, ok := types.Field(p, class, name)
					isNone(t, "field "+class+"."+name, v, ok)
				}
			}
		}
	}
	hold(api.Program{})
	hold(api.Program{Classes: []api.Class{}, Globals: []api.Var{}, Externs: []api.Extern{}, Funcs: []api.Func{}})
	classes, globals, externs, funcs = strings.Fields("P Q x"), strings.Fields("g P x"), strings.Fields("e x"), strings.Fields("f x")
	fields = strings.Fields("P.a P.n x.x")
	hold(parsed(t, twice))
}

// An extern of nothing, a class and a function of nothing are found too.
func TestWhatIsEmptyIsFound(t *testing.T) {
	p := api.Program{Classes: []api.Class{{Name: "C"}}, Externs: []api.Extern{{Name: "e"}}, Funcs: []api.Func{{Name: "f"}}}
	c, ok := types.Class(p, "C")
	is(t, "class", c, ok, api.Class{Name: "C"})
	e, ok := types.Extern(p, "e")
	is(t, "extern", e, ok, api.Extern{Name: "e"})
	f, ok := types.Func(p, "f")
	is(t, "func", f, ok, api.Func{Name: "f"})
}

// The type of each kind of argument.
func TestOf(t *testing.T) {
	f := parsed(t, twice).Funcs[0]
	for a, want := range map[api.Arg]string{
		// The first parameter, ahead of the second one and of the variable of that name; the first variable.
		variable("k"): "int", variable("p"): "P", variable("x"): "int",
		number(0): "int", number(-5): "int", number(math.MinInt64): "int", number(math.MaxInt64): "int",
		{Kind: api.KFloat}: "float", float(): "float", {Kind: api.KFloat, N: 0x7ff8000000000000}: "float", {Kind: api.KFloat, N: math.MinInt64}: "float",
		null(): "null",
	} {
		if got, ok := types.Of(f, a); got != want || !ok {
			t.Errorf("Of %+v is %q %v, not %q", a, got, ok, want)
		}
	}
	for _, a := range []api.Arg{
		object(0), object(1), object(999), object(-1), object(1000), {Kind: api.KObj, S: "k"},
		{}, {S: "k"}, {Kind: -1}, {Kind: 6}, {Kind: 6, S: "k"}, {Kind: -1, S: "k"}, {Kind: math.MaxInt}, {Kind: math.MinInt, S: "x"},
		variable(""), variable("z"), variable("K"), variable("kk"), variable("f"), variable("P"), variable("g"), variable("b"), variable("null"), variable("int"), variable("k "),
	} {
		if got, ok := types.Of(f, a); got != "" || ok {
			t.Errorf("Of %+v is %q %v", a, got, ok)
		}
	}
	for _, a := range []api.Arg{variable("k"), variable(""), object(0), {}} {
		if got, ok := types.Of(api.Func{}, a); got != "" || ok {
			t.Errorf("of no function: Of %+v is %q %v", a, got, ok)
		}
	}
	if got, ok := types.Of(api.Func{}, null()); got != "null" || !ok {
		t.Error(got, ok)
	}
	// A name that is a type's word is one like all others.
	odd := api.Func{Params: []api.Var{{Name: "a", Type: "b"}}, Vars: []api.Var{{Name: "b", Type: "a"}, {Name: "a", Type: "a"}, {Name: "c", Type: "float"}}}
	for name, want := range map[string]string{"a": "b", "b": "a", "c": "float"} {
		if got, ok := types.Of(odd, variable(name)); got != want || !ok {
			t.Errorf("Of %s is %q %v", name, got, ok)
		}
	}
}

// Each type against each one.
func TestFits(t *testing.T) {
	all := strings.Fields("int float null P Q p Int ints nulls Null fl")
	for _, have := range all {
		for _, want := range all {
			fits := have == want
			if have == "null" {
				fits = want != "int" && want != "float"
			}
			if got := types.Fits(have, want); got != fits {
				t.Errorf("Fits(%s, %s) is %v", have, want, got)
			}
		}
	}
}
