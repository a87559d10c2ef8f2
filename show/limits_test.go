package show_test

import (
	"math"
	"slices"
	"strings"
	"testing"

	"lateen/api"
	"lateen/show"
	"lateen/syntax"
)

// many answers a list of n times x.
func many[T any](n int, x T) []T {
	l := make([]T, n)
	for i := range l {
		l[i] = x
	}
	return l
}

func out() api.Instr  { return api.Instr{Op: api.Out, Args: []api.Arg{number(1)}} }
func trap() api.Term  { return api.Term{Kind: api.Trap} }
func some() api.Var   { return api.Var{Name: "v", Type: "int"} }
func bound() api.Bind { return api.Bind{Name: "x", A: object(0)} }

func aPhi() api.Phi {
	return api.Phi{Dst: "x", Ins: []api.In{{Block: "b", A: number(1)}}}
}

// coded answers a block with so many phis and instructions.
func coded(phis, code int) api.Block {
	return api.Block{Name: "b", Phis: many(phis, aPhi()), Code: many(code, out()), End: trap()}
}

// of answers a function of these blocks.
func of(b ...api.Block) api.Func {
	return api.Func{Name: "f", Result: "int", Blocks: b}
}

func program(f ...api.Func) api.Program { return api.Program{Funcs: f} }

// limits are programs with n of something, by the most that there may be.
func limits() map[string]struct {
	most int
	of   func(n int) api.Program
} {
	whole := of(coded(512, 512))
	whole.Params, whole.Vars = many(6, some()), many(1024, some())
	class := api.Class{Name: "C", Fields: many(8, some())}
	instr := func(i api.Instr) api.Program {
		return program(whole, of(coded(1, 1), api.Block{Name: "c", Code: []api.Instr{out(), i}, End: trap()}))
	}
	type limit = struct {
		most int
		of   func(n int) api.Program
	}
	return map[string]limit{
		"classes": {8, func(n int) api.Program { return api.Program{Classes: many(n, class)} }},
		"fields": {8, func(n int) api.Program {
			return api.Program{Classes: []api.Class{class, {Name: "D", Fields: many(n, some())}, class}}
		}},
		"globals":         {8, func(n int) api.Program { return api.Program{Globals: many(n, some()), Classes: many(8, class)} }},
		"externs":         {8, func(n int) api.Program { return api.Program{Externs: many(n, api.Extern{Name: "e", N: 8})} }},
		"extern's number": {8, func(n int) api.Program { return api.Program{Externs: []api.Extern{{Name: "d"}, {Name: "e", N: n}}} }},
		"functions":       {8, func(n int) api.Program { return program(many(n, whole)...) }},
		"parameters": {6, func(n int) api.Program {
			f := whole
			f.Params = many(n, some())
			return program(whole, f)
		}},
		"variables": {1024, func(n int) api.Program {
			f := whole
			f.Vars = many(n, some())
			return program(f, whole)
		}},
		"blocks":                 {256, func(n int) api.Program { return program(whole, of(many(n, coded(1, 2))...)) }},
		"code":                   {1024, func(n int) api.Program { return program(of(coded(0, n)), whole) }},
		"phis":                   {1024, func(n int) api.Program { return program(whole, of(coded(n, 0))) }},
		"code behind phis":       {512, func(n int) api.Program { return program(of(coded(512, n))) }},
		"phis ahead of code":     {24, func(n int) api.Program { return program(of(coded(n, 1000))) }},
		"code of the last block": {4, func(n int) api.Program { return program(of(append(many(255, coded(1, 3)), coded(0, n))...)) }},
		"phis of the last block": {4, func(n int) api.Program { return program(of(append(many(255, coded(3, 1)), coded(n, 0))...)) }},
		"code of the first one": {4, func(n int) api.Program {
			return program(of(append([]api.Block{coded(0, n)}, many(255, coded(2, 2))...)...))
		}},
		"pairs of a phi": {256, func(n int) api.Program {
			b := coded(2, 1)
			b.Phis[1].Ins = many(n, b.Phis[0].Ins[0])
			return program(of(b))
		}},
		"frames of a guard": {16, func(n int) api.Program {
			return instr(api.Instr{Op: api.Guard, Frames: many(n, api.Frame{Func: "f", Block: "b", At: 1024, Vars: many(16, bound())}), Objs: many(99, api.Virt{Class: "C"})})
		}},
		"frames of a call": {16, func(n int) api.Program {
			return instr(api.Instr{Op: api.Call, Dst: "x", Name: "f", Frames: many(n, api.Frame{Func: "f", Block: "b"})})
		}},
		"pairs of a frame": {16, func(n int) api.Program {
			return instr(api.Instr{Op: api.Guard, Frames: []api.Frame{{Func: "f", Block: "b", Vars: many(16, bound())}, {Func: "f", Block: "b", Vars: many(n, bound())}}})
		}},
		"a frame's place": {1024, func(n int) api.Program {
			return instr(api.Instr{Op: api.Guard, Frames: []api.Frame{{Func: "f", Block: "b"}, {Func: "f", Block: "b", At: n}}})
		}},
		"objects of a guard": {99, func(n int) api.Program {
			return instr(api.Instr{Op: api.Guard, Frames: many(16, api.Frame{Func: "f", Block: "b"}), Objs: many(n, api.Virt{Class: "C", Vals: many(8, object(0))})})
		}},
		"objects of a call": {99, func(n int) api.Program {
			return instr(api.Instr{Op: api.Call, Dst: "x", Name: "f", Objs: many(n, api.Virt{Class: "C"})})
		}},
		"fields of an object": {8, func(n int) api.Program {
			return instr(api.Instr{Op: api.Guard, Objs: []api.Virt{{Class: "C"}, {Class: "C", Vals: many(n, number(1))}}})
		}},
		"arguments of new": {8, func(n int) api.Program {
			return instr(api.Instr{Op: api.New, Dst: "x", Name: "C", Args: many(n, number(1))})
		}},
		"arguments of call": {8, func(n int) api.Program {
			return instr(api.Instr{Op: api.Call, Dst: "x", Name: "f", Args: many(n, number(1))})
		}},
		"arguments of ext": {8, func(n int) api.Program {
			return instr(api.Instr{Op: api.Ext, Dst: "x", Name: "e", Args: many(n, number(1))})
		}},
		"virtual objects": {999, func(n int) api.Program {
			return instr(api.Instr{Op: api.Guard, Frames: []api.Frame{{Func: "f", Block: "b", Vars: []api.Bind{{Name: "x", A: object(int64(n))}}}}})
		}},
		"bytes of a name": {16, func(n int) api.Program {
			return api.Program{Globals: []api.Var{{Name: strings.Repeat("g", n), Type: "int"}}}
		}},
		"bytes of a type": {16, func(n int) api.Program {
			return api.Program{Globals: []api.Var{{Name: "g", Type: strings.Repeat("C", n)}}}
		}},
	}
}

func TestLimits(t *testing.T) {
	t.Parallel()
	for what, l := range limits() {
		for _, n := range []int{l.most - 1, l.most} {
			if !hold(t, l.of(n)) {
				t.Errorf("%s: %d", what, n)
			}
		}
		for _, n := range []int{l.most + 1, l.most + 2, 2*l.most + 1} {
			if hold(t, l.of(n)) {
				t.Errorf("%s: %d", what, n)
			}
		}
	}
}

// Numbers that no text has.
func TestNumbersBelowNought(t *testing.T) {
	for _, n := range []int{-1, -8, -1024, math.MinInt, math.MinInt + 1, math.MaxInt, 1 << 32, 1<<32 + 1} {
		isNone(t, api.Program{Externs: []api.Extern{{Name: "e", N: n}}})
		isNone(t, ofInstr(api.Instr{Op: api.Guard, Frames: []api.Frame{{Func: "f", Block: "b", At: n}}}))
		isNone(t, ofInstr(api.Instr{Op: n}))
		isNone(t, ofEnd(api.Term{Kind: n}))
	}
}

// wide answers an instruction whose text is as long as may be, and how long that is.
func wide() (api.Instr, int) {
	name := strings.Repeat("n", 16)
	least := number(math.MinInt64)
	i := api.Instr{Op: api.Call, Dst: name, Name: name, Args: many(8, least)}
	i.Frames = many(16, api.Frame{Func: name, Block: name, At: 1024, Vars: many(16, api.Bind{Name: name, A: least})})
	i.Objs = many(99, api.Virt{Class: name, Vals: many(8, least)})
	return i, len(write(ofInstr(i))) - len(write(one(api.Block{Name: "b", End: trap()})))
}

// fitted answers the sample with a function more, so that its text has so many bytes.
func fitted(t *testing.T, size int) api.Program {
	p := parsed(t, sample)
	i, step := wide()
	p.Funcs = append(p.Funcs, of(api.Block{Name: "b", End: trap()}))
	left := size - len(write(p))
	b := &p.Funcs[len(p.Funcs)-1].Blocks[0]
	for ; left > step+24; left -= step {
		b.Code = append(b.Code, i)
	}
	// What is left is filled with lines of 6 to 24 bytes, as out 1 is one of 6.
	for left > 0 {
		n := min(left, 24)
		if rest := left - n; rest > 0 && rest < 6 {
			n = left - 6
		}
		digits := int64(1)
		for range n - 6 {
			digits = digits*10 + 1
		}
		b.Code = append(b.Code, api.Instr{Op: api.Out, Args: []api.Arg{number(digits)}})
		left -= n
	}
	if got := len(write(p)); got != size {
		t.Fatalf("%d bytes, not %d", got, size)
	}
	return p
}

func TestMaxText(t *testing.T) {
	t.Parallel()
	for _, size := range []int{api.MaxText - 1, api.MaxText} {
		p := fitted(t, size)
		if !hold(t, p) {
			t.Errorf("%d bytes are not readable", size)
		}
		text, _ := show.Text(p)
		if read, _, e := syntax.Parse(text); len(text) != size || e != api.OK || !same(read, p) {
			t.Errorf("%d bytes are %d", size, len(text))
		}
	}
	for _, size := range []int{api.MaxText + 1, api.MaxText + 2, api.MaxText + 1<<16} {
		tooLong(t, fitted(t, size))
	}
}

// A text of MaxText bytes that ends without a line feed is read; shown, it has one, and is too long.
func TestMaxTextWithoutItsEnd(t *testing.T) {
	t.Parallel()
	text := strings.TrimSuffix(write(fitted(t, api.MaxText+1)), "\n")
	if len(text) != api.MaxText {
		t.Fatal(len(text))
	}
	tooLong(t, parsed(t, text))
}

// tooLong holds that p is readable, and its text too long.
func tooLong(t *testing.T, p api.Program) {
	t.Helper()
	if text, e := show.Text(p); e != api.ErrLimit || text != "" {
		t.Errorf("%d, and %d bytes", e, len(text))
	}
	if !show.Right(p) {
		t.Error("it isn't readable")
	}
}

// A text of MaxText bytes, to which one part of any line is too much.
func TestOneMoreThanMaxText(t *testing.T) {
	t.Parallel()
	filler := fitted(t, api.MaxText).Funcs[2]
	for at, change := range []func(p *api.Program){
		func(p *api.Program) { p.Classes[0].Name = "PP" },
		func(p *api.Program) { p.Classes[0].Fields[0].Name = "aa" },
		func(p *api.Program) { p.Classes = append(p.Classes, api.Class{Name: "C"}) },
		func(p *api.Program) { p.Globals[1].Type = "PP" },
		func(p *api.Program) { p.Externs[0].Name = "ee" },
		func(p *api.Program) { p.Funcs[0].Name = "ff" },
		func(p *api.Program) { p.Funcs[0].Params[0].Name = "kk" },
		func(p *api.Program) { p.Funcs[0].Vars[0].Name = "xx" },
		func(p *api.Program) { p.Funcs[0].Blocks[0].Name = "b00" },
		func(p *api.Program) { p.Funcs[0].Blocks[0].Phis[0].Dst = "xx" },
		func(p *api.Program) { p.Funcs[0].Blocks[0].Phis[1].Ins[0].A = number(-77) },
		func(p *api.Program) { p.Funcs[0].Blocks[0].Code[0].Name = "PP" },
		func(p *api.Program) { p.Funcs[0].Blocks[0].Code[0].Dst = "xx" },
		func(p *api.Program) { p.Funcs[0].Blocks[0].Code[2].Name = "aa" },
		func(p *api.Program) { p.Funcs[0].Blocks[0].Code[4].Frames[0].Vars[0].Name = "xx" },
		func(p *api.Program) { p.Funcs[0].Blocks[0].Code[4].Frames[0].At = 10 },
		func(p *api.Program) { p.Funcs[0].Blocks[0].Code[4].Objs[0].Vals[1] = object(10) },
		func(p *api.Program) { p.Funcs[0].Blocks[0].End.A = variable("kk") },
		func(p *api.Program) { p.Funcs[0].Blocks[1].End.To[0] = "b00" },
		func(p *api.Program) { p.Funcs[0].Blocks[2].End.N = -10 },
		func(p *api.Program) { p.Funcs[2].Blocks[0].End.N = 10 },
		func(p *api.Program) {
			p.Funcs[2].Blocks = append(p.Funcs[2].Blocks, api.Block{Name: "c", End: trap()})
		},
		func(p *api.Program) { p.Funcs = append(p.Funcs, of(api.Block{Name: "c", End: trap()})) },
	} {
		p := parsed(t, sample)
		f := filler
		f.Blocks = slices.Clone(filler.Blocks)
		p.Funcs = append(p.Funcs, f)
		change(&p)
		if len(write(p)) <= api.MaxText {
			t.Fatal(at, "is no longer")
		}
		tooLong(t, p)
	}
	p := fitted(t, api.MaxText)
	p.SSA = false
	if !hold(t, p) {
		t.Error("it isn't readable")
	}
}

// A program of which there is as much as may be of all; and one part of which is wrong: that is told ahead of its length.
func TestLongestText(t *testing.T) {
	t.Parallel()
	i, _ := wide()
	f := of(append(many(255, coded(2, 2)), api.Block{Name: "b", Code: many(4, i), End: trap()})...)
	long := of(api.Block{Name: "b", Code: many(1024, i), End: trap()})
	p := program(many(8, long)...)
	tooLong(t, p)
	p = copied(program(long, f))
	tooLong(t, p)
	p.Funcs[1].Blocks[255].End.To = []string{"b"}
	isNone(t, p)
	p.Funcs[1].Blocks[255].End.To = nil
	p.Funcs[1].Blocks[255].Code[3].Objs[98].Vals[7].S = "x"
	isNone(t, p)
	p.Funcs[1].Blocks[255].Code[3].Objs[98].Vals[7].S = ""
	tooLong(t, p)
	// Phis alone may be too many bytes, too.
	phi := api.Phi{Dst: "x", Ins: many(256, api.In{Block: strings.Repeat("b", 16), A: number(math.MinInt64)})}
	tooLong(t, program(of(api.Block{Name: "b", Phis: many(1024, phi), End: trap()})))
	tooLong(t, program(of(api.Block{Name: "b", Phis: many(1024, phi), End: trap()}), of(coded(0, 1))))
}
