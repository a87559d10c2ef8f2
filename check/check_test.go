package check_test

import (
	"slices"
	"strconv"
	"strings"
	"testing"

	"lateen/api"
	"lateen/assign"
	"lateen/check"
	"lateen/shape"
	"lateen/show"
	"lateen/syntax"
	"lateen/types"
)

// sample is a source that has each kind of line that one may have, and an instruction of each form.
const sample = `class P
field a int
field n P
class Q
global g float
global h P
extern e 2
extern e0 0
func f P
param k int
param o P
var x P
var y float
var z int
var q Q
block b0
x = new P 5 null
x = new P
q = new Q
store x a k
z = load x a
store x n null
x = load o n
x = call f 1 x
x = call f z null
z = ext e 1 -9223372036854775808
z = ext e0
guard
out 0f7ff8000000000000
out z
y = gload g
gstore g 0f3ff0000000000000
gstore h null
z = same x null
z = add 1 z
z = fle y 0f8000000000000000
y = itof 1
z = ftoi y
q = mov null
y = fadd y y
branch k b1 b2
block b1
guard
jump b3
block b2
z = call g
branch z b3 b4
block b3
z = lt z k
branch z b1 b4
block b4
trap 10
func g int
block b
ret 9223372036854775807
func n float
param p float
var x float
block b
branch 0 c d
block c
ret p
block d
x = call n p
ret x
`

// parsed answers the program whose lines the text has, parted by / or by line feeds.
func parsed(t testing.TB, text string) api.Program {
	t.Helper()
	p, at, e := syntax.Parse(strings.ReplaceAll(text, "/", "\n"))
	if e != api.OK {
		t.Fatalf("line %d: %d in\n%s", at, e, text)
	}
	return p
}

func program(f ...api.Func) api.Program { return api.Program{Funcs: f} }

// variables answers so many variables, whose names begin so.
func variables(first string, n int) []api.Var {
	l := make([]api.Var, n)
	for at := range l {
		l[at] = api.Var{Name: first + strconv.Itoa(at), Type: "int"}
	}
	return l
}

// function answers a function with so many of each: each block leads to the one behind it, and instructions are dealt to blocks in turn.
func function(blocks, code, params, vars int) api.Func {
	f := api.Func{Name: "f", Result: "int", Params: variables("p", params), Vars: variables("v", vars), Blocks: make([]api.Block, blocks)}
	for at := range f.Blocks {
		f.Blocks[at] = api.Block{Name: "b" + strconv.Itoa(at), End: api.Term{Kind: api.Jump, To: []string{"b" + strconv.Itoa(at+1)}}}
	}
	f.Blocks[blocks-1].End = api.Term{Kind: api.Trap, N: 10}
	for at := range code {
		b := &f.Blocks[at%blocks]
		b.Code = append(b.Code, api.Instr{Op: api.Guard})
	}
	return f
}

// told answers all errors that p has, in the order in which they are told: another way of asking, which asks for all of them.
func told(p api.Program) []api.Errno {
	var form, bounds, heads, each []api.Errno
	tell := func(to *[]api.Errno, wrong bool, e api.Errno) {
		if wrong {
			*to = append(*to, e)
		}
	}
	tell(&form, p.SSA || !show.Right(p), api.ErrSyntax)
	tell(&heads, !types.Heads(p), api.ErrType)
	for _, f := range p.Funcs {
		code := 0
		tell(&each, !shape.Right(f), api.ErrShape)
		for _, b := range f.Blocks {
			tell(&form, len(b.Phis) > 0, api.ErrSyntax)
			for _, i := range b.Code {
				code++
				tell(&form, len(i.Frames) > 0, api.ErrSyntax)
				tell(&form, len(i.Objs) > 0, api.ErrSyntax)
				tell(&each, !types.Instr(p, f, i), api.ErrType)
			}
			tell(&each, !types.End(f, b.End), api.ErrType)
		}
		tell(&each, !assign.Right(f), api.ErrType)
		tell(&bounds, len(f.Blocks) > 32, api.ErrLimit)
		tell(&bounds, code > 200, api.ErrLimit)
		tell(&bounds, len(f.Params) > 16-len(f.Vars), api.ErrLimit)
	}
	return slices.Concat(form, bounds, heads, each)
}

// hold holds what Source answers of p against all errors that p has, and answers it.
func hold(t *testing.T, p api.Program) api.Errno {
	t.Helper()
	want := api.OK
	if l := told(p); len(l) > 0 {
		want = l[0]
	}
	got := check.Source(p)
	if got != want {
		t.Fatalf("%d, not %d, of\n%+v", got, want, p)
	}
	return got
}

// is holds what Source answers of p against want.
func is(t *testing.T, p api.Program, want api.Errno) {
	t.Helper()
	if got := hold(t, p); got != want {
		t.Errorf("%d, not %d, of\n%+v", got, want, p)
	}
}

func TestSources(t *testing.T) {
	for _, text := range []string{
		"", sample,
		"class P/field n P", "class P/global P P/extern P 0", "global g int/global h float", "extern e 8/extern f 0",
		"func f int/block a/ret 1",
		"func f int/param k int/var x int/block a/x = add k 1/ret x",
		"func f int/block f/trap 10",
		"func f int/var v int/block a/trap 9223372036854775807",
		"func f float/block a/branch 1 b c/block b/ret 0f0000000000000000/block c/trap 11",
		"class P/func f P/block a/ret null",
		// Ways round, such as are no loop's, too, and such as have no end.
		"func f int/block a/jump b/block b/jump b",
		"func f int/param k int/block a/branch k b c/block b/jump c/block c/branch k b d/block d/ret k",
		// A function that calls itself, and one that stands behind it; a parameter that is set.
		"func f int/param k int/block a/k = call f k/k = call g/ret k/func g int/block a/ret 1",
		// A variable that both ways set, one that is set ahead of both, and one that is set anew on the way round.
		"func f int/param k int/var x int/block a/branch k b c/block b/x = mov 1/jump d/block c/x = mov 2/jump d/block d/ret x",
		"func f int/param k int/var x int/block a/x = mov 1/branch k b c/block b/jump d/block c/x = mov 2/jump d/block d/ret x",
		"func f int/var x int/var y int/block a/x = mov 1/jump b/block b/y = mov x/x = mov y/branch y b c/block c/ret y",
	} {
		is(t, parsed(t, text), api.OK)
	}
}

// The chapter's examples.
func TestExamples(t *testing.T) {
	is(t, parsed(t, "func f int/param k int/var x int/block b0/branch k b1 b2/block b1/x = mov 1/jump b2/block b2/ret x"), api.ErrType)
	is(t, parsed(t, "func f int/block b0/ret 1/block b1/ret 1"), api.ErrShape)
	is(t, program(function(33, 0, 0, 0)), api.ErrLimit)
}

// Size counts instructions alone, in blocks of whichever function.
func TestSize(t *testing.T) {
	three := []api.Instr{{}, {Op: api.Guard}, {Op: -1}}
	whole := parsed(t, sample).Funcs
	for _, c := range []struct {
		f    api.Func
		want int
	}{
		{api.Func{}, 0},
		{api.Func{Blocks: []api.Block{}}, 0},
		{api.Func{Blocks: make([]api.Block, 5)}, 0},
		{api.Func{Blocks: []api.Block{{Code: three}}}, 3},
		{api.Func{Blocks: []api.Block{{}, {Code: three}, {Code: []api.Instr{}}, {Code: three[:1]}, {}}}, 4},
		{api.Func{Blocks: []api.Block{{Phis: make([]api.Phi, 7), Code: three[:2], End: api.Term{To: []string{"a", "b"}}}}}, 2},
		{api.Func{Params: make([]api.Var, 3), Vars: make([]api.Var, 4), Blocks: []api.Block{{Phis: make([]api.Phi, 7)}}}, 0},
		{api.Func{Blocks: []api.Block{{Code: []api.Instr{{Op: api.Call, Args: make([]api.Arg, 8), Frames: make([]api.Frame, 9), Objs: make([]api.Virt, 9)}}}}}, 1},
		{api.Func{Blocks: []api.Block{{Name: "a", Code: make([]api.Instr, 1<<16)}, {Name: "a", Code: make([]api.Instr, 1<<15)}}}, 3 << 15},
		{whole[0], 27}, {whole[1], 0}, {whole[2], 1},
		{function(7, 30, 2, 3), 30},
	} {
		if got := check.Size(c.f); got != c.want {
			t.Errorf("%d, not %d, of\n%+v", got, c.want, c.f)
		}
	}
}
