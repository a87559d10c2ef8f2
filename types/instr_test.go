package types_test

import (
	"math"
	"slices"
	"strings"
	"testing"

	"lateen/api"
	"lateen/syntax"
	"lateen/types"
)

// heads has things of each type; Z isn't declared.
const heads = `class P
field a int
field n P
class Q
class R
field u float
field n Q
field m R
global g int
global h P
global w float
extern e0 0
extern e1 1
extern e2 2
func none int
block b
ret 1
func one float
param k int
block b
ret w
func two P
param p P
param u float
block b
ret p
func three Q
param k int
param q Q
param r R
block b
ret q
func f int
param k int
param w float
param p P
var x int
var u float
var s P
var q Q
var r R
var z Z
block b
ret k
`

// rights are all instructions of heads that have their types, but for those of two numbers: a variable's type, and arguments' types, where | tells one from another.
const rights = `
float = itof int
int = ftoi float
int = mov int
float = mov float
P = mov P|null
Q = mov Q|null
R = mov R|null
Z = mov Z|null
P = new P
P = new P int P|null
Q = new Q
R = new R
R = new R float Q|null R|null
int = load a P
P = load n P
float = load u R
Q = load n R
R = load m R
store a P int
store n P P|null
store u R float
store n R Q|null
store m R R|null
int = same P P|null
int = same Q Q|null
int = same R R|null
int = same Z Z|null
int = same null null|P|Q|R|Z
int = gload g
P = gload h
float = gload w
gstore g int
gstore h P|null
gstore w float
int = call none
float = call one int
P = call two P|null float
Q = call three int Q|null R|null
int = call f int float P|null
int = ext e0
int = ext e1 int
int = ext e2 int int
out int|float
guard
`

// rightLines are all instructions that have their types, one by one.
func rightLines() []string {
	var l []string
	for _, line := range strings.Split(strings.TrimSpace(rights), "\n") {
		l = append(l, spread(line)...)
	}
	for _, w := range strings.Fields("add sub mul div rem and or xor shl shr eq ne lt le") {
		l = append(l, "int = "+w+" int int")
	}
	for _, w := range strings.Fields("fadd fsub fmul fdiv") {
		l = append(l, "float = "+w+" float float")
	}
	for _, w := range strings.Fields("feq flt fle") {
		l = append(l, "int = "+w+" float float")
	}
	return l
}

// spread answers the lines that a line with | in it means.
func spread(line string) []string {
	l := []string{""}
	for at, word := range strings.Fields(line) {
		var longer []string
		for _, begun := range l {
			for _, one := range strings.Split(word, "|") {
				if at > 0 {
					one = " " + one
				}
				longer = append(longer, begun+one)
			}
		}
		l = longer
	}
	return l
}

// typed is an argument, and the word that a line of rights has for its type; what has none has the word that no line has.
type typed struct {
	t string
	a api.Arg
}

const no = "none"

// few are arguments of each type, many more than one of each.
func few() []typed {
	return []typed{{"int", variable("k")}, {"float", variable("u")}, {"P", variable("p")}, {"Q", variable("q")}, {"R", variable("r")}, {"Z", variable("z")}, {"null", null()}, {no, object(0)}, {no, variable("y")}}
}

func many() []typed {
	return append(few(), typed{"int", variable("x")}, typed{"int", number(7)}, typed{"float", variable("w")}, typed{"float", float()}, typed{"P", variable("s")}, typed{no, api.Arg{}}, typed{no, api.Arg{Kind: 6}}, typed{no, variable("")})
}

// lists answers all lists of n of what may stand in them.
func lists(n int, of []typed) [][]typed {
	l := [][]typed{nil}
	for range n {
		var longer [][]typed
		for _, begun := range l {
			for _, one := range of {
				longer = append(longer, append(slices.Clip(begun), one))
			}
		}
		l = longer
	}
	return l
}

// given tells the line of rights that an instruction would be, if it had its types, and the instruction.
func given(op int, dst typed, name string, args []typed) (string, api.Instr) {
	form, _ := syntax.Of(op)
	i := api.Instr{Op: op, Dst: dst.a.S, Name: name}
	line := form.Word
	if form.Dst {
		line = dst.t + " = " + line
	}
	if form.Named {
		line += " " + name
	}
	for _, a := range args {
		line += " " + a.t
		i.Args = append(i.Args, a.a)
	}
	return line, i
}

// named are the names that an instruction may have: those that anything of heads has, and others.
func named(op int) []string {
	if f, _ := syntax.Of(op); f.Named {
		return strings.Fields("g h w P Q R Z a n u m e0 e1 e2 none one two three f k y int float null")
	}
	return []string{""}
}

// dsts are the variables that an instruction may set.
func dsts(op int) []typed {
	if f, _ := syntax.Of(op); !f.Dst {
		return []typed{{}}
	}
	l := []typed{{no, variable("")}, {no, variable("int")}}
	for _, v := range many() {
		if v.a.Kind == api.KVar {
			l = append(l, v)
		}
	}
	return l
}

// Each instruction, of each name, with each Dst and each list of up to three arguments; with more declared behind, too.
func TestInstrOfAll(t *testing.T) {
	t.Parallel()
	p := parsed(t, heads)
	f := p.Funcs[len(p.Funcs)-1]
	moreP, moreF := more(p), moreVars(f)
	want := map[string]int{}
	for _, line := range rightLines() {
		want[line] = 0
	}
	args := slices.Concat(lists(0, nil), lists(1, many()), lists(2, many()), lists(3, few()))
	for op := api.Add; op <= api.Guard; op++ {
		for _, name := range named(op) {
			for _, dst := range dsts(op) {
				for _, l := range args {
					line, i := given(op, dst, name, l)
					_, right := want[line]
					if got := types.Instr(p, f, i); got != right {
						t.Fatalf("%s is %v: %+v", line, got, i)
					}
					if !right {
						continue
					}
					want[line]++
					if !types.Instr(moreP, moreF, i) {
						t.Fatalf("%s isn't right with more declared: %+v", line, i)
					}
				}
			}
		}
	}
	for line, times := range want {
		if times == 0 {
			t.Errorf("%s wasn't asked for", line)
		}
	}
}

// more answers p with more declared behind: things of names that are there, with other types, and of new names.
func more(p api.Program) api.Program {
	for _, name := range strings.Fields("P Q R Z S") {
		p.Classes = append(slices.Clip(p.Classes), api.Class{Name: name, Fields: []api.Var{{Name: "a", Type: "float"}, {Name: "n", Type: "S"}, {Name: "y", Type: "int"}}})
	}
	for _, name := range strings.Fields("g h w y") {
		p.Globals = append(slices.Clip(p.Globals), api.Var{Name: name, Type: "S"})
	}
	for _, name := range strings.Fields("e0 e1 e2 y") {
		p.Externs = append(slices.Clip(p.Externs), api.Extern{Name: name, N: 7})
	}
	for _, name := range strings.Fields("none one two three f y") {
		p.Funcs = append(slices.Clip(p.Funcs), api.Func{Name: name, Result: "S", Params: []api.Var{{Name: "a", Type: "S"}}})
	}
	return p
}

func moreVars(f api.Func) api.Func {
	for _, name := range strings.Fields("k w p x u s q r z y") {
		f.Vars = append(slices.Clip(f.Vars), api.Var{Name: name, Type: "S"})
	}
	return f
}

// one answers the first function of the name f of a text, and the first instruction of its first block.
func one(t *testing.T, text string) (api.Program, api.Func, api.Instr) {
	t.Helper()
	p := parsed(t, text)
	for _, f := range p.Funcs {
		if f.Name == "f" {
			return p, f, f.Blocks[0].Code[0]
		}
	}
	t.Fatal("there is no f")
	return p, api.Func{}, api.Instr{}
}

// Of things of one name it is the first that tells the type.
func TestInstrOfFirst(t *testing.T) {
	const classes = "class P\nfield a int\nfield a float\nclass P\nfield a float\nfield b float\n"
	for _, c := range []struct {
		heads, line string
		want        bool
	}{
		{classes + "func f int\nparam p P\nvar x int\nvar u float\n", "x = load p a", true},
		{classes + "func f int\nparam p P\nvar x int\nvar u float\n", "u = load p a", false},
		{classes + "func f int\nparam p P\nvar x int\nvar u float\n", "u = load p b", false},
		{classes + "func f int\nparam p P\n", "store p a 1", true},
		{classes + "func f int\nparam p P\n", "store p a 0f0000000000000000", false},
		{classes + "func f int\nparam p P\n", "store p b 0f0000000000000000", false},
		{classes + "func f int\nparam p P\n", "p = new P 1 0f0000000000000000", true},
		{classes + "func f int\nparam p P\n", "p = new P 0f0000000000000000 0f0000000000000000", false},
		{"global g int\nglobal g float\nfunc f int\nvar x int\nvar u float\n", "x = gload g", true},
		{"global g int\nglobal g float\nfunc f int\nvar x int\nvar u float\n", "u = gload g", false},
		{"global g int\nglobal g float\nfunc f int\n", "gstore g 1", true},
		{"global g int\nglobal g float\nfunc f int\n", "gstore g 0f0000000000000000", false},
		{"extern e 1\nextern e 2\nfunc f int\nvar x int\n", "x = ext e 1", true},
		{"extern e 1\nextern e 2\nfunc f int\nvar x int\n", "x = ext e 1 2", false},
		{"func g int\nblock b\nret 1\nfunc g float\nparam k int\nblock b\nret 1\nfunc f int\nvar x int\nvar u float\n", "x = call g", true},
		{"func g int\nblock b\nret 1\nfunc g float\nparam k int\nblock b\nret 1\nfunc f int\nvar x int\nvar u float\n", "u = call g 1", false},
		{"func f int\nparam k int\nparam k float\nvar k float\n", "k = add k 1", true},
		{"func f int\nparam k int\nparam k float\nvar k float\n", "k = fadd k k", false},
		{"func f int\nparam j int\nvar k float\nvar k int\n", "k = fadd k k", true},
		{"func f int\nparam j int\nvar k float\nvar k int\n", "k = add k 1", false},
		// A name may be that of things of several kinds.
		{"class x\nfield x x\nglobal x x\nextern x 1\nfunc f int\nparam x x\n", "x = load x x", true},
		{"class x\nfield x x\nglobal x x\nextern x 1\nfunc f int\nparam x x\n", "x = new x x", true},
		{"class x\nfield x x\nglobal x x\nextern x 1\nfunc f int\nparam x x\n", "x = gload x", true},
		{"class x\nfield x x\nglobal x x\nextern x 1\nfunc f int\nparam x x\n", "x = ext x 1", false},
		{"func x int\nblock b\nret 1\nextern x 0\nfunc f int\nvar x int\n", "x = call x", true},
		// A class of a global's name is none of its type; a variable of another function is none here.
		{"class g\nglobal g int\nfunc f int\nvar x g\n", "x = gload g", false},
		{"class g\nfunc f int\nvar x int\n", "x = gload g", false},
		{"global P int\nfunc f int\nvar x P\n", "x = new P", false},
		{"func g int\nvar y int\nblock b\nret 1\nfunc f int\nvar x int\n", "x = mov y", false},
		{"func g int\nvar y int\nblock b\nret 1\nfunc f int\nvar x int\n", "y = mov x", false},
		// A function may call itself.
		{"func f int\nparam k int\n", "k = call f k", true},
		// The second field that fits isn't looked for in another class.
		{"class P\nclass Q\nfield a int\nfunc f int\nparam p P\nvar x int\n", "x = load p a", false},
	} {
		p, f, i := one(t, c.heads+"block b\n"+c.line+"\nret 1\n")
		if types.Instr(p, f, i) != c.want {
			t.Errorf("%s\n%s isn't %v", c.heads, c.line, c.want)
		}
	}
}

// vars are so many variables of one type.
func vars(n int, kind string) []api.Var {
	var l []api.Var
	for at := range n {
		l = append(l, api.Var{Name: "v" + strings.Repeat("x", at), Type: kind})
	}
	return l
}

// Numbers of arguments: for each field, parameter, an extern's number; no form has more than MaxFields.
func TestNumbersOfArguments(t *testing.T) {
	f := api.Func{Vars: []api.Var{{Name: "x", Type: "int"}, {Name: "c", Type: "C"}}}
	for n := range 11 {
		p := api.Program{
			Classes: []api.Class{{Name: "C", Fields: vars(n, "int")}},
			Externs: []api.Extern{{Name: "e", N: n}},
			Funcs:   []api.Func{{Name: "g", Result: "int", Params: vars(n, "int")}},
		}
		for have := range 12 {
			args := slices.Repeat([]api.Arg{number(1)}, have)
			right := have == n && n <= api.MaxFields
			for _, c := range []struct {
				i    api.Instr
				want bool
			}{
				{api.Instr{Op: api.New, Dst: "c", Name: "C", Args: args}, right || have == 0},
				{api.Instr{Op: api.Call, Dst: "x", Name: "g", Args: args}, right},
				{api.Instr{Op: api.Ext, Dst: "x", Name: "e", Args: args}, right},
			} {
				if types.Instr(p, f, c.i) != c.want {
					t.Errorf("%d of %d: %+v isn't %v", have, n, c.i, c.want)
				}
				if have == 0 {
					continue
				}
				// One that is wrong, at each place.
				for at := range have {
					c.i.Args = slices.Clone(args)
					c.i.Args[at] = float()
					if types.Instr(p, f, c.i) {
						t.Errorf("%d of %d: %+v is right", have, n, c.i)
					}
				}
			}
		}
		for op := api.Add; op <= api.Guard; op++ {
			form, _ := syntax.Of(op)
			if n >= form.Least && n <= form.Most {
				continue
			}
			for _, a := range []api.Arg{number(1), float(), variable("x"), variable("c"), null()} {
				for _, name := range []string{"", "C", "g", "e"} {
					if i := (api.Instr{Op: op, Dst: "x", Name: name, Args: slices.Repeat([]api.Arg{a}, n)}); types.Instr(p, f, i) {
						t.Errorf("%+v is right", i)
					}
				}
			}
		}
	}
	if types.Instr(api.Program{Externs: []api.Extern{{Name: "e", N: -1}}}, f, api.Instr{Op: api.Ext, Dst: "x", Name: "e"}) {
		t.Error("an extern of less than nothing is right")
	}
}

// What stands in states is chapter 18's to ask for.
func TestStatesAreNotAskedFor(t *testing.T) {
	for _, line := range []string{"guard", "x = call f 1"} {
		p, f, i := one(t, "func f int\nparam k int\nvar x int\nblock b\n"+line+"\nat g c 7 y #5 y null y y\nobj Z #9 y\nret 1\n")
		if !types.Instr(p, f, i) {
			t.Errorf("%s isn't right with a state", line)
		}
	}
}

// What no instruction is; and instructions of programs and functions of nothing.
func TestNoInstruction(t *testing.T) {
	p := parsed(t, heads)
	f := p.Funcs[len(p.Funcs)-1]
	for _, op := range []int{0, -1, -34, api.Guard + 1, api.Guard + 2, 100, math.MaxInt, math.MinInt, 1 << 32, 1<<32 + 1} {
		for _, l := range slices.Concat(lists(0, nil), lists(1, few()), lists(2, few())) {
			for _, name := range []string{"", "P", "g", "none"} {
				for _, dst := range []string{"", "x", "u", "p"} {
					_, i := given(op, typed{a: variable(dst)}, name, l)
					if types.Instr(p, f, i) {
						t.Errorf("%+v is right", i)
					}
				}
			}
		}
	}
	for op := -1; op <= api.Guard+1; op++ {
		for n := range 12 {
			for _, a := range append(many(), typed{a: api.Arg{Kind: math.MinInt}}) {
				i := api.Instr{Op: op, Args: slices.Repeat([]api.Arg{a.a}, n)}
				number := a.a.Kind == api.KInt || a.a.Kind == api.KFloat
				want := op == api.Guard && n == 0 || op == api.Out && n == 1 && number
				if types.Instr(api.Program{}, api.Func{}, i) != want {
					t.Errorf("%+v isn't %v, where nothing is declared", i, want)
				}
			}
		}
	}
}

// Where a variable's type is a word that no text has, too, what isn't declared is none; and a load is one of a variable, whatever classes are called.
func TestInstrOfOddWords(t *testing.T) {
	f := api.Func{Vars: []api.Var{{Name: "x"}, {Name: "p", Type: "null"}}}
	for _, dst := range []string{"", "x", "y"} {
		for op := api.New; op <= api.Ext; op++ {
			if op == api.Same {
				continue
			}
			for n := range 3 {
				for _, name := range []string{"", "x", "P"} {
					if i := (api.Instr{Op: op, Dst: dst, Name: name, Args: slices.Repeat([]api.Arg{variable("x")}, n)}); types.Instr(api.Program{}, f, i) {
						t.Errorf("%+v is right, where nothing is declared", i)
					}
				}
			}
		}
	}
	fields := []api.Var{{Name: "a", Type: "null"}}
	p := api.Program{Classes: []api.Class{{Name: "null", Fields: fields}, {Name: "int", Fields: fields}, {Name: "float", Fields: fields}}}
	for _, a := range []api.Arg{null(), number(1), float(), object(0)} {
		for _, i := range []api.Instr{{Op: api.Load, Dst: "p", Name: "a", Args: []api.Arg{a}}, {Op: api.Store, Name: "a", Args: []api.Arg{a, variable("p")}}} {
			if types.Instr(p, f, i) {
				t.Errorf("%+v is right", i)
			}
		}
	}
}
