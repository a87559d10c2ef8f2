package syntax_test

import (
	"reflect"
	"strings"
	"testing"

	"lateen/api"
	"lateen/syntax"
)

// sample has each kind of line, and each instruction, at least once.
const sample = `ssa
class P
field a int
field n P
class Q
class R
field f float
global g float
global h P
extern e 2
extern e0 0
extern e8 8
func f P
param k int
param o P
var x P
var y int
var z P
block b0
phi x b1 null b2 x
phi y b1 -7 b2 0f3ff0000000000000
x = new P 5 null
x = new Q
store x a k
y = load x a
y = load null n
z = call f 1 x
at f b0 4 x #0 k 5
at f b1 0
at g b 1024 x #999 y null z 0fbff0000000000000 u -3
obj P 1 #0
obj Q
obj R #1 x null 0 5 -5 #0 #998
z = call f
y = ext e 1 2
y = ext e0
guard
at f b0 5
guard
obj P #0 1
guard
out 0f3ff0000000000000
out y
y = gload g
gstore g y
y = same x null
y = itof 1
y = ftoi y
y = mov y
branch k b0 b1
block b1
y = add k 1
y = sub k 2
y = fle k 0f7ff8000000000000
trap -5
block b2
phi z b0 o
jump b0
block b3
ret null
func g int
block b
jump b
func h float
var v float
block a
ret v
`

func number(n int64) api.Arg    { return api.Arg{Kind: api.KInt, N: n} }
func float(bits int64) api.Arg  { return api.Arg{Kind: api.KFloat, N: bits} }
func variable(s string) api.Arg { return api.Arg{Kind: api.KVar, S: s} }
func object(n int64) api.Arg    { return api.Arg{Kind: api.KObj, N: n} }
func null() api.Arg             { return api.Arg{Kind: api.KNull} }

const one = 0x3ff0000000000000

// What Parse makes of a text, part by part.
func TestParse(t *testing.T) {
	text := "ssa\nclass P\nfield a int\nfield n P\nclass E\nglobal g float\nextern e 2\nfunc f P\nparam k int\nvar x P\nvar y float\nblock b0\nphi x b1 null b2 x\nx = new P 5 null\nstore x a k\ny = load x a\nx = call f 1 x\nat f b0 4 x #0 k 5\nat f b1 0\nobj P 1 #0\nobj E\nguard\ngstore g 0f3ff0000000000000\nbranch k b0 b1\nblock b1\ntrap -5\nfunc g int\nblock b\njump b\n"
	want := api.Program{
		SSA:     true,
		Classes: []api.Class{{Name: "P", Fields: []api.Var{{Name: "a", Type: "int"}, {Name: "n", Type: "P"}}}, {Name: "E"}},
		Globals: []api.Var{{Name: "g", Type: "float"}},
		Externs: []api.Extern{{Name: "e", N: 2}},
		Funcs: []api.Func{{
			Name: "f", Result: "P", Params: []api.Var{{Name: "k", Type: "int"}}, Vars: []api.Var{{Name: "x", Type: "P"}, {Name: "y", Type: "float"}},
			Blocks: []api.Block{{
				Name: "b0",
				Phis: []api.Phi{{Dst: "x", Ins: []api.In{{Block: "b1", A: null()}, {Block: "b2", A: variable("x")}}}},
				Code: []api.Instr{
					{Op: api.New, Dst: "x", Name: "P", Args: []api.Arg{number(5), null()}},
					{Op: api.Store, Name: "a", Args: []api.Arg{variable("x"), variable("k")}},
					{Op: api.Load, Dst: "y", Name: "a", Args: []api.Arg{variable("x")}},
					{
						Op: api.Call, Dst: "x", Name: "f", Args: []api.Arg{number(1), variable("x")},
						Frames: []api.Frame{{Func: "f", Block: "b0", At: 4, Vars: []api.Bind{{Name: "x", A: object(0)}, {Name: "k", A: number(5)}}}, {Func: "f", Block: "b1"}},
						Objs:   []api.Virt{{Class: "P", Vals: []api.Arg{number(1), object(0)}}, {Class: "E"}},
					},
					{Op: api.Guard},
					{Op: api.Gstore, Name: "g", Args: []api.Arg{float(one)}},
				},
				End: api.Term{Kind: api.Branch, A: variable("k"), To: []string{"b0", "b1"}},
			}, {Name: "b1", End: api.Term{Kind: api.Trap, N: -5}}},
		}, {
			Name: "g", Result: "int",
			Blocks: []api.Block{{Name: "b", End: api.Term{Kind: api.Jump, To: []string{"b"}}}},
		}},
	}
	p, at, e := syntax.Parse(text)
	if at != 0 || e != api.OK || !reflect.DeepEqual(p, want) {
		t.Errorf("%d %d\n%+v, not\n%+v", at, e, want, p)
	}
}

// Each instruction's line: with as many arguments as may be, with one less and one more, with its parts missing, and with what isn't of its form.
func TestInstructions(t *testing.T) {
	m := newMeasure()
	for op, f := range forms() {
		line := api.Instr{Op: op}
		if f.Dst {
			line.Dst = "x"
		}
		if f.Named {
			line.Name = "P"
		}
		for n := range 12 {
			line.Args = nil
			for a := range n {
				line.Args = append(line.Args, []api.Arg{variable("y"), number(-1), float(one), null()}[(a+op)%4])
			}
			ok := n >= f.Least && n <= f.Most
			text := "func f int\nblock b\n" + strings.Join(instruction(f, line), " ") + "\nret 1\n"
			p, at, e := syntax.Parse(text)
			if ok && (e != api.OK || !reflect.DeepEqual(p.Funcs[0].Blocks[0].Code, []api.Instr{line})) {
				t.Errorf("%q is %+v, not %+v %d %d", text, line, p, at, e)
			}
			if !ok && (e != api.ErrSyntax || at != 3) {
				t.Errorf("%q is %d %d", text, at, e)
			}
			m.hold(t, text)
		}
	}
	for _, s := range []string{"x = add #0 1", "x = add 1 #0", "x = new P #1", "x = load #0 a", "store #0 a 1", "store x a #0", "gstore g #0", "x = call f #0", "out #0", "x = same #0 #0", "x =", "x", "=", "= add 1 2", "= = add 1 2", "x = x = mov 1", "x == mov 1", "x=mov 1", "x = = 1", "1 = mov 1", "null = mov 1", "#0 = mov 1", "int = mov 1", "float = mov 1", "x y = mov 1", "x = mov", "x = mov null null", "x = load a", "x = load x a b", "x = load x 1", "x = load x null", "x = load x a 1", "store x a", "store x 1 a", "store x y z 1", "store a", "x = new", "x = new 1", "x = new int", "x = gload", "x = gload g 1", "gload g", "x = gstore g 1", "x = store x a 1", "x = out 1", "x = guard", "guard 1", "guard x", "add 1 2", "new P", "call f", "ext e", "load x a", "mov 1", "x = phi b 1", "x = jump b", "x = ret 1", "x = block", "x = ADD 1 2", "x = nop", "nop"} {
		text := "func f int\nblock b\n" + s + "\nret 1\n"
		if p, at, e := syntax.Parse(text); e != api.ErrSyntax || at != 3 || !zero(p) {
			t.Errorf("%q is %d %d %v", text, at, e, p)
		}
		m.hold(t, text)
	}
}

// Whatever a line may begin with, a variable, a block, and whatever else is named, may have that name too.
func TestNamesThatAreWordsToo(t *testing.T) {
	m := newMeasure()
	names := strings.Fields("ssa class field global extern func param var block phi at obj jump branch ret trap x _ nul Int")
	for _, f := range forms() {
		names = append(names, f.Word)
	}
	texts := []string{"N = mov 1", "N = add N N", "N = new N N", "N = load N N", "store N N N", "N = gload N", "gstore N N", "N = call N N\nat N N 1 N N\nobj N N", "N = ext N N", "out N", "ret N\nblock N\nphi N N N N 1\njump N\nblock N"}
	for _, n := range names {
		for _, s := range texts {
			text := strings.ReplaceAll("class N\nfield N N\nglobal N N\nextern N 1\nfunc N N\nparam N N\nvar N N\nblock N\n"+s+"\nbranch N N N\n", "N", n)
			if _, at, e := syntax.Parse(text); e != api.OK {
				t.Errorf("%q is %d %d", text, at, e)
			}
			m.hold(t, text)
		}
	}
	for _, n := range []string{"int", "float", "null"} {
		if _, at, e := syntax.Parse("func f int\nblock b\nout 1\n" + n + " = mov 1\nret 1\n"); e != api.ErrSyntax || at != 4 {
			t.Errorf("%s is %d %d", n, at, e)
		}
	}
}

// Programs that are small, empty, or have their lists in another order.
func TestParseInAnyOrder(t *testing.T) {
	for _, s := range []string{"", "\n", ";\n", " \t\n\n;ssa", "ssa", "ssa\n", ";\n\n  ssa ; so\n", "class C", "global g int", "extern e 0"} {
		p, at, e := syntax.Parse(s)
		if at != 0 || e != api.OK || len(p.Funcs) != 0 || p.SSA != strings.Contains(s, "  ssa") && p.SSA != strings.HasPrefix(s, "ssa") {
			t.Errorf("%q is %v %d %d", s, p, at, e)
		}
	}
	parts := []string{"class A\n", "class B\nfield a int\nfield b A\n", "class C\n", "global x int\n", "global y B\n", "extern e 1\n", "extern d 2\n", "func f int\nblock b\nret 1\n", "func g A\nparam p A\nvar v A\nblock b\nret v\nblock c\ntrap 10\n"}
	// Each order in which one part is moved, with the parts of each kind in their own.
	for from := range parts {
		for to := range parts {
			l := append([]string{}, parts[:from]...)
			l = append(l, parts[from+1:]...)
			l = append(l[:to:to], append([]string{parts[from]}, l[to:]...)...)
			text := strings.Join(l, "")
			p, at, e := syntax.Parse(text)
			if at != 0 || e != api.OK {
				t.Fatalf("%q is %d %d", text, at, e)
			}
			order(t, l, "class ", written(p.Classes, func(c api.Class) string { return c.Name }))
			order(t, l, "global ", written(p.Globals, func(v api.Var) string { return v.Name }))
			order(t, l, "extern ", written(p.Externs, func(x api.Extern) string { return x.Name }))
			order(t, l, "func ", written(p.Funcs, func(f api.Func) string { return f.Name }))
			if strings.Count(write(p), "\n") != strings.Count(text, "\n") {
				t.Errorf("%q is %q", text, write(p))
			}
		}
	}
}

func written[T any](l []T, name func(T) string) string {
	s := ""
	for _, x := range l {
		s += name(x)
	}
	return s
}

// order holds the names of one kind, in the order of a program's list, against that of the text's parts.
func order(t *testing.T, parts []string, first, got string) {
	t.Helper()
	want := ""
	for _, p := range parts {
		if name, ok := strings.CutPrefix(p, first); ok {
			want += name[:1]
		}
	}
	if got != want {
		t.Errorf("%q is %q of %q", want, got, parts)
	}
}

// The lines that are told are the text's, not those that have words.
func TestLinesAreTheTexts(t *testing.T) {
	for s, want := range map[string]int{
		"\n\n; a\nx\n":     4,
		";\n\tssa\n ssa":   3,
		"class C;\n\n\n\n": 0,
		"func f int\n;\nblock b ; of f\n\n  ret\t1 2 ; 1\n": 5,
		"func f int\n\nblock b\n\n\n":                       0,
		"func f int\n\nblock b;x\nret ;1\n":                 4,
	} {
		if _, at, e := syntax.Parse(s); at != want || (e != api.ErrSyntax) != (s == "class C;\n\n\n\n") {
			t.Errorf("%q is %d %d", s, at, e)
		}
	}
}

// What layer 4 refuses is told ahead of all else.
func TestErrorsOfLines(t *testing.T) {
	long := strings.Repeat(" ", api.MaxText-len("x\nfunc f"))
	for _, c := range []struct {
		text string
		at   int
		e    api.Errno
	}{
		{"x\nret \x01\n", 2, api.ErrSyntax},
		{"func f int\nblock b\nret 1 2\nret é\n", 4, api.ErrSyntax},
		{"class \x7f", 1, api.ErrSyntax},
		{strings.Repeat("class C\n", 12) + "\xff", 13, api.ErrSyntax},
		{"class C ; \x01\nfield a é", 2, api.ErrSyntax},
		{"func f int\n\r\n", 2, api.ErrSyntax},
		{long + "x\nfunc f", 1, api.ErrSyntax},
		{long + "x\nfunc f ", 0, api.ErrLimit},
		{long + "\x01\nfunc f ", 0, api.ErrLimit},
		{"class C\n" + strings.Repeat(";", api.MaxText-8), 0, api.OK},
		{"class C\n" + strings.Repeat(";", api.MaxText-7), 0, api.ErrLimit},
	} {
		p, at, e := syntax.Parse(c.text)
		if at != c.at || e != c.e {
			t.Errorf("%.20q is %d %d, not %d %d", c.text, c.at, c.e, at, e)
		}
		if e != api.OK && !zero(p) {
			t.Errorf("%.20q is %v beside %d", c.text, p, e)
		}
	}
}

func TestExamples(t *testing.T) {
	p, at, e := syntax.Parse("func f int\nblock b\nx = add 1 y\nret x\n")
	want := api.Program{Funcs: []api.Func{{Name: "f", Result: "int", Blocks: []api.Block{{Name: "b", Code: []api.Instr{{Op: api.Add, Dst: "x", Args: []api.Arg{number(1), variable("y")}}}, End: api.Term{Kind: api.Ret, A: variable("x")}}}}}}
	if at != 0 || e != api.OK || !reflect.DeepEqual(p, want) {
		t.Error(p, at, e)
	}
	if p, at, e = syntax.Parse("func f int\nblock b\nx = add 1\nret x\n"); at != 3 || e != api.ErrSyntax || !zero(p) {
		t.Error(p, at, e)
	}
	if p, at, e = syntax.Parse("func f int\n"); at != 0 || e != api.ErrSyntax || !zero(p) {
		t.Error(p, at, e)
	}
}
