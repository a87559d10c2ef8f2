package show_test

import (
	"reflect"
	"strings"
	"testing"

	"lateen/api"
	"lateen/show"
	"lateen/syntax"
)

// sample has each kind of line, and an instruction of each form, as they are shown.
const sample = `ssa
class P
field a int
field n P
class Q
global g float
global h P
extern e 2
extern e0 0
extern e8 8
func f P
param k int
param o P
var x P
var y float
block b0
phi x b1 null b2 x
phi y b1 -7 b2 0f3ff0000000000000
x = new P 5 null
x = new Q
store x a k
y = load x a
z = call f 1 x
at f b0 4 x #0 k 5
at f b1 0
at g b 1024 x #999 y null z 0fbff0000000000000
obj P 1 #0
obj Q
z = call f
y = ext e 1 -9223372036854775808
y = ext e0
guard
at f b0 5
guard
obj P #0 1
guard
out 0f7ff8000000000000
y = gload g
gstore g y
y = same x null
y = add 1 2
y = fle y 0f8000000000000000
y = itof 1
y = ftoi y
y = mov y
branch k b1 b2
block b1
jump b0
block b2
trap -5
func g int
block b
ret 9223372036854775807
`

func number(n int64) api.Arg    { return api.Arg{Kind: api.KInt, N: n} }
func variable(s string) api.Arg { return api.Arg{Kind: api.KVar, S: s} }
func object(n int64) api.Arg    { return api.Arg{Kind: api.KObj, N: n} }

// parsed answers the program of a text that is one.
func parsed(t testing.TB, text string) api.Program {
	t.Helper()
	p, at, e := syntax.Parse(text)
	if e != api.OK {
		t.Fatalf("line %d: %d in\n%s", at, e, text)
	}
	return p
}

// one answers a program of one function, of one block.
func one(b api.Block) api.Program {
	return api.Program{Funcs: []api.Func{{Name: "f", Result: "int", Blocks: []api.Block{b}}}}
}

// ofInstr answers a program of one instruction.
func ofInstr(i api.Instr) api.Program {
	return one(api.Block{Name: "b", Code: []api.Instr{i}, End: api.Term{Kind: api.Trap}})
}

// ofEnd answers a program of one end.
func ofEnd(t api.Term) api.Program {
	return one(api.Block{Name: "b", End: t})
}

// is holds the text of p against what it must be.
func is(t *testing.T, p api.Program, want string) {
	t.Helper()
	if text, e := show.Text(p); e != api.OK || text != want {
		t.Errorf("%d, and\n%q, not\n%q", e, text, want)
	}
	if !show.Right(p) {
		t.Errorf("%q isn't readable", want)
	}
}

// isNone holds that p isn't readable.
func isNone(t *testing.T, p api.Program) {
	t.Helper()
	if text, e := show.Text(p); e != api.ErrArg || text != "" {
		t.Errorf("%d and %.200q of\n%.2000s", e, text, write(p))
	}
	if show.Right(p) {
		t.Errorf("it is readable:\n%.2000s", write(p))
	}
}

// A program that is laid out by hand, part by part, and its text.
func TestText(t *testing.T) {
	p := api.Program{
		SSA:     true,
		Classes: []api.Class{{Name: "P", Fields: []api.Var{{Name: "a", Type: "int"}, {Name: "n", Type: "P"}}}, {Name: "E"}},
		Globals: []api.Var{{Name: "g", Type: "float"}},
		Externs: []api.Extern{{Name: "e", N: 2}},
		Funcs: []api.Func{{
			Name: "f", Result: "P", Params: []api.Var{{Name: "k", Type: "int"}}, Vars: []api.Var{{Name: "x", Type: "P"}, {Name: "y", Type: "float"}},
			Blocks: []api.Block{{
				Name: "b0",
				Phis: []api.Phi{{Dst: "x", Ins: []api.In{{Block: "b1", A: api.Arg{Kind: api.KNull}}, {Block: "b2", A: variable("x")}}}},
				Code: []api.Instr{
					{Op: api.New, Dst: "x", Name: "P", Args: []api.Arg{number(5), {Kind: api.KNull}}},
					{Op: api.Store, Name: "a", Args: []api.Arg{variable("x"), variable("k")}},
					{Op: api.Load, Dst: "y", Name: "a", Args: []api.Arg{variable("x")}},
					{
						Op: api.Call, Dst: "x", Name: "f", Args: []api.Arg{number(1), variable("x")},
						Frames: []api.Frame{{Func: "f", Block: "b0", At: 4, Vars: []api.Bind{{Name: "x", A: object(0)}, {Name: "k", A: number(5)}}}, {Func: "f", Block: "b1"}},
						Objs:   []api.Virt{{Class: "P", Vals: []api.Arg{number(1), object(0)}}, {Class: "E"}},
					},
					{Op: api.Guard},
					{Op: api.Gstore, Name: "g", Args: []api.Arg{{Kind: api.KFloat, N: 0x3ff0000000000000}}},
				},
				End: api.Term{Kind: api.Branch, A: variable("k"), To: []string{"b0", "b1"}},
			}, {Name: "b1", End: api.Term{Kind: api.Trap, N: -5}}},
		}, {
			Name: "g", Result: "int",
			Blocks: []api.Block{{Name: "b", End: api.Term{Kind: api.Jump, To: []string{"b"}}}, {Name: "c", End: api.Term{Kind: api.Ret, A: number(0)}}},
		}},
	}
	is(t, p, "ssa\nclass P\nfield a int\nfield n P\nclass E\nglobal g float\nextern e 2\nfunc f P\nparam k int\nvar x P\nvar y float\nblock b0\nphi x b1 null b2 x\nx = new P 5 null\nstore x a k\ny = load x a\nx = call f 1 x\nat f b0 4 x #0 k 5\nat f b1 0\nobj P 1 #0\nobj E\nguard\ngstore g 0f3ff0000000000000\nbranch k b0 b1\nblock b1\ntrap -5\nfunc g int\nblock b\njump b\nblock c\nret 0\n")
	is(t, parsed(t, sample), sample)
	hold(t, p)
}

func TestExamples(t *testing.T) {
	is(t, ofEnd(api.Term{Kind: api.Ret, A: number(5)}), "func f int\nblock b\nret 5\n")
	isNone(t, ofEnd(api.Term{}))
}

// Programs that are small, or that lack what they must have.
func TestLeast(t *testing.T) {
	is(t, api.Program{}, "")
	is(t, api.Program{SSA: true}, "ssa\n")
	is(t, api.Program{Classes: []api.Class{{Name: "C"}}}, "class C\n")
	is(t, api.Program{Globals: []api.Var{{Name: "g", Type: "C"}}}, "global g C\n")
	is(t, api.Program{Externs: []api.Extern{{Name: "e"}}}, "extern e 0\n")
	trap := api.Term{Kind: api.Trap}
	for _, p := range []api.Program{
		{Funcs: []api.Func{{Name: "f", Result: "int"}}},
		{Funcs: []api.Func{{Name: "f", Result: "int", Blocks: []api.Block{}}}},
		{Funcs: []api.Func{{}}},
		{Funcs: []api.Func{{Name: "f", Blocks: []api.Block{{Name: "b", End: trap}}}}},
		{Classes: []api.Class{{}}},
		{Classes: []api.Class{{Name: "C", Fields: []api.Var{{}}}}},
		{Globals: []api.Var{{Name: "g"}}},
		{Globals: []api.Var{{Type: "int"}}},
		{Externs: []api.Extern{{}}},
		one(api.Block{}),
		one(api.Block{End: trap}),
		one(api.Block{Name: "b"}),
		one(api.Block{Name: "b", Phis: []api.Phi{{}}, End: trap}),
		one(api.Block{Name: "b", Phis: []api.Phi{{Dst: "x"}}, End: trap}),
		one(api.Block{Name: "b", Phis: []api.Phi{{Dst: "x", Ins: []api.In{}}}, End: trap}),
		one(api.Block{Name: "b", Phis: []api.Phi{{Dst: "x", Ins: []api.In{{}}}}, End: trap}),
		one(api.Block{Name: "b", Phis: []api.Phi{{Dst: "x", Ins: []api.In{{Block: "c", A: object(0)}}}}, End: trap}),
	} {
		isNone(t, p)
	}
}

// Each instruction, with each number of arguments, with and without a variable, a name, frames and objects.
func TestInstructions(t *testing.T) {
	frames := []api.Frame{{Func: "f", Block: "b"}}
	objs := []api.Virt{{Class: "P"}}
	for op := -1; op <= api.Guard+2; op++ {
		f, known := syntax.Of(op)
		for n := range 11 {
			for parts := range 16 {
				i := api.Instr{Op: op}
				for at := range n {
					i.Args = append(i.Args, []api.Arg{variable("y"), number(-1), {Kind: api.KFloat}, {Kind: api.KNull}}[(at+op+4)%4])
				}
				if parts&1 != 0 {
					i.Dst = "x"
				}
				if parts&2 != 0 {
					i.Name = "P"
				}
				if parts&4 != 0 {
					i.Frames = frames
				}
				if parts&8 != 0 {
					i.Objs = objs
				}
				want := known && n >= f.Least && n <= f.Most && f.Dst == (i.Dst != "") && f.Named == (i.Name != "") && (parts < 4 || op == api.Call || op == api.Guard)
				if got := hold(t, ofInstr(i)); got != want {
					t.Errorf("readable is %v of %+v", got, i)
				}
				if !want || n == 0 {
					continue
				}
				// A virtual object stands in states alone.
				i.Args[n-1] = object(0)
				isNone(t, ofInstr(i))
			}
		}
	}
}

// Each kind of ends, with and without each part.
func TestEnds(t *testing.T) {
	right := 0
	for kind := -1; kind <= api.Trap+1; kind++ {
		for _, a := range []api.Arg{{}, number(0), variable("x"), {Kind: api.KNull}, {Kind: api.KFloat, N: 1}, object(0), {S: "x"}, {N: 1}} {
			for _, to := range [][]string{nil, {}, {"a"}, {"a", "a"}, {"a", "b", "c"}, {""}, {"1"}, {"a", ""}, {"int", "a"}} {
				for _, n := range []int64{0, 1, 10, -1 << 63, 1<<63 - 1} {
					if hold(t, ofEnd(api.Term{Kind: kind, A: a, To: to, N: n})) {
						right++
					}
				}
			}
		}
	}
	// Jump; Branch and Ret, of four arguments, Ret and Trap with nil and an empty list; Trap of five numbers.
	if want := 1 + 4 + 4*2 + 5*2; right != want {
		t.Errorf("%d ends are right, not %d", right, want)
	}
}

// Arguments that are right in a state, and where none of a state's own may stand.
func TestArguments(t *testing.T) {
	const nan = 0x7ff8000000000000
	for a, want := range map[api.Arg]string{
		variable("x"): "x", variable("Abcdefghijklmno9"): "Abcdefghijklmno9", variable("_"): "_", variable("at"): "at",
		number(0): "0", number(-1): "-1", number(1<<63 - 1): "9223372036854775807", number(-1 << 63): "-9223372036854775808",
		{Kind: api.KFloat}: "0f0000000000000000", {Kind: api.KFloat, N: -1 << 63}: "0f8000000000000000", {Kind: api.KFloat, N: nan}: "0f7ff8000000000000", {Kind: api.KFloat, N: 0x7ff0000000000000}: "0f7ff0000000000000",
		{Kind: api.KNull}: "null", object(0): "#0", object(999): "#999",
		{}: "", {Kind: 6}: "", {Kind: -1}: "", {Kind: 6, S: "x"}: "", {S: "x"}: "", {N: 1}: "",
		variable(""): "", variable("null"): "", variable("int"): "", variable("float"): "", variable("1"): "", variable("a b"): "", variable("Abcdefghijklmno90"): "", {Kind: api.KVar, S: "x", N: 1}: "",
		{Kind: api.KInt, S: "x"}: "", {Kind: api.KFloat, S: "x"}: "", {Kind: api.KFloat, N: nan + 1}: "", {Kind: api.KFloat, N: nan - 1}: "", {Kind: api.KFloat, N: -1}: "",
		{Kind: api.KNull, S: "null"}: "", {Kind: api.KNull, N: 1}: "", {Kind: api.KObj, S: "x"}: "", object(-1): "", object(1000): "",
	} {
		outside := want
		if a.Kind == api.KObj {
			outside = ""
		}
		check := func(p api.Program, word, text string) {
			t.Helper()
			if word == "" {
				isNone(t, p)
			} else {
				is(t, p, "func f int\nblock b\n"+strings.ReplaceAll(text, "ARG", word))
			}
		}
		trap := api.Term{Kind: api.Trap}
		check(ofInstr(api.Instr{Op: api.Out, Args: []api.Arg{a}}), outside, "out ARG\ntrap 0\n")
		check(ofInstr(api.Instr{Op: api.Store, Name: "n", Args: []api.Arg{a, number(1)}}), outside, "store ARG n 1\ntrap 0\n")
		check(ofInstr(api.Instr{Op: api.Store, Name: "n", Args: []api.Arg{number(1), a}}), outside, "store 1 n ARG\ntrap 0\n")
		check(one(api.Block{Name: "b", Phis: []api.Phi{{Dst: "x", Ins: []api.In{{Block: "c", A: number(1)}, {Block: "d", A: a}}}}, End: trap}), outside, "phi x c 1 d ARG\ntrap 0\n")
		check(ofEnd(api.Term{Kind: api.Ret, A: a}), outside, "ret ARG\n")
		check(ofEnd(api.Term{Kind: api.Branch, A: a, To: []string{"c", "d"}}), outside, "branch ARG c d\n")
		check(ofInstr(api.Instr{Op: api.Guard, Frames: []api.Frame{{Func: "f", Block: "b", Vars: []api.Bind{{Name: "x", A: a}}}}}), want, "guard\nat f b 0 x ARG\ntrap 0\n")
		check(ofInstr(api.Instr{Op: api.Guard, Objs: []api.Virt{{Class: "C", Vals: []api.Arg{number(1), a}}}}), want, "guard\nobj C 1 ARG\ntrap 0\n")
	}
}

// Names and types' words, wherever they stand.
func TestNames(t *testing.T) {
	texts := []string{"class NAME\n", "class C\nfield NAME int\n", "global NAME int\n", "extern NAME 1\n", "func NAME int\nblock b\nret 1\n", "func f int\nparam NAME int\nblock b\nret 1\n", "func f int\nvar NAME int\nblock b\nret 1\n"}
	for _, s := range []string{"block NAME\nret 1\n", "block b\nphi NAME b 1\nret 1\n", "block b\nphi x NAME 1\nret 1\n", "block b\nphi x b NAME\nret 1\n", "block b\nNAME = mov 1\nret 1\n", "block b\nx = load x NAME\nret 1\n", "block b\nstore x NAME x\nret 1\n", "block b\nx = new NAME\nret 1\n", "block b\nx = gload NAME\nret 1\n", "block b\ngstore NAME 1\nret 1\n", "block b\nx = call NAME\nret 1\n", "block b\nx = ext NAME\nret 1\n", "block b\nguard\nat NAME b 1\nret 1\n", "block b\nguard\nat f NAME 1\nret 1\n", "block b\nguard\nat f b 1 NAME 1\nret 1\n", "block b\nguard\nat f b 1 x NAME\nret 1\n", "block b\nguard\nobj NAME\nret 1\n", "block b\nguard\nobj C NAME\nret 1\n", "block b\nout NAME\nret 1\n", "block b\njump NAME\n", "block b\nbranch NAME b b\n", "block b\nbranch 1 NAME b\n", "block b\nbranch 1 b NAME\n", "block b\nret NAME\n"} {
		texts = append(texts, "func f int\n"+s)
	}
	types := []string{"class C\nfield a NAME\n", "global g NAME\n", "func f NAME\nblock b\nret 1\n", "func f int\nparam p NAME\nblock b\nret 1\n", "func f int\nvar v NAME\nblock b\nret 1\n"}
	right := strings.Fields("q _ A Int nul null1 z9 _0 Abcdefghijklmno9 ssa class field func param var block phi at obj jump ret add guard")
	wrong := []string{"", "null", "1", "9a", "q q", " q", "q ", "q;", ";", "=", "q.", "-", "-1", "#0", "Abcdefghijklmno90", "q\n", "\n", "q\nret 1", "é", "\x00", "q\xff", "0f3ff0000000000000"}
	for at, text := range append(texts, types...) {
		p := parsed(t, strings.ReplaceAll(text, "NAME", "N0000000"))
		name := func(s string) api.Program {
			c := copied(p)
			rename(reflect.ValueOf(&c).Elem(), s)
			return c
		}
		for _, s := range right {
			is(t, name(s), strings.ReplaceAll(text, "NAME", s))
		}
		for _, s := range wrong {
			isNone(t, name(s))
		}
		for _, s := range []string{"int", "float"} {
			if at < len(texts) {
				isNone(t, name(s))
			} else {
				is(t, name(s), strings.ReplaceAll(text, "NAME", s))
			}
		}
	}
}

// rename puts s wherever N0000000 stands.
func rename(v reflect.Value, s string) {
	walk(v, func(v reflect.Value) {
		if v.Kind() == reflect.String && v.String() == "N0000000" {
			v.SetString(s)
		}
	})
}

// walk goes over v, and all that is in it.
func walk(v reflect.Value, over func(reflect.Value)) {
	over(v)
	switch v.Kind() {
	case reflect.Slice:
		for i := range v.Len() {
			walk(v.Index(i), over)
		}
	case reflect.Struct:
		for i := range v.NumField() {
			walk(v.Field(i), over)
		}
	}
}

// Texts that are no program's own: what is read is shown in order, without what doesn't matter, and that is read as the same program, and shown as it is.
func TestThereAndBack(t *testing.T) {
	for text, want := range map[string]string{
		"":            "",
		";\n\n \t;x":  "",
		" ssa ; so\n": "ssa\n",
		"func f int\nblock b\nret 1\nextern e 1\nglobal g int\nclass C\nfield a int":                                                        "class C\nfield a int\nglobal g int\nextern e 1\nfunc f int\nblock b\nret 1\n",
		"ssa\nglobal g int\nclass B\nextern x 0\nglobal a C\nclass A\nextern b 8\n":                                                         "ssa\nclass B\nclass A\nglobal g int\nglobal a C\nextern x 0\nextern b 8\n",
		"func g int\nblock b\nret 1\nclass C\nfunc f int ; it\nvar  v\tint\n\n\tblock c\n x  =  add 1 -2;\nout x\nguard\nobj C\nret null\n": "class C\nfunc g int\nblock b\nret 1\nfunc f int\nvar v int\nblock c\nx = add 1 -2\nout x\nguard\nobj C\nret null\n",
		"; remark\n\n\t" + strings.ReplaceAll(sample, " ", "\t  "):                                                                          sample,
		strings.ReplaceAll(sample, "\n", " ;\n\n"):                                                                                          sample,
	} {
		p := parsed(t, text)
		is(t, p, want)
		again := parsed(t, want)
		if !same(p, again) {
			t.Errorf("%q is read as %+v, not %+v", want, again, p)
		}
		is(t, again, want)
	}
}
