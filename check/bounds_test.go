package check_test

import (
	"slices"
	"testing"

	"lateen/api"
)

// within answers OK, if so many are within the bound most, or else the error.
func within(n, most int) api.Errno {
	if n > most {
		return api.ErrLimit
	}
	return api.OK
}

// among answers programs that have f ahead of other functions, between them, behind them, and alone.
func among(f api.Func) []api.Program {
	small := api.Func{Name: "s", Result: "int", Blocks: []api.Block{{Name: "b", End: api.Term{Kind: api.Trap, N: 10}}}}
	// As great as may be.
	great := function(api.MaxBlocks, api.MaxCode, api.MaxParams, api.MaxVars-api.MaxParams)
	great.Name = "g"
	return []api.Program{program(f), program(f, small, great), program(great, f, small), program(small, great, f)}
}

func TestBounds(t *testing.T) {
	t.Parallel()
	for _, n := range []int{1, 2, 31, 32, 33, 34, 64, 255, 256} {
		for _, p := range among(function(n, 0, 0, 0)) {
			is(t, p, within(n, 32))
		}
		for _, p := range among(function(n, 200, 6, 10)) {
			is(t, p, within(n, 32))
		}
	}
	for _, blocks := range []int{1, 2, 7, 31, 32} {
		for _, n := range []int{0, 1, 199, 200, 201, 202, 400, 1024} {
			for _, p := range among(function(blocks, n, 0, 0)) {
				is(t, p, within(n, 200))
			}
			for _, p := range among(function(blocks, n, 5, 11)) {
				is(t, p, within(n, 200))
			}
		}
	}
	for params := range api.MaxParams + 1 {
		for _, n := range []int{0, 1, 9, 10, 11, 15, 16, 17, 18, 1024} {
			for _, p := range among(function(1, 0, params, n)) {
				is(t, p, within(params+n, 16))
			}
			for _, p := range among(function(32, 200, params, n)) {
				is(t, p, within(params+n, 16))
			}
		}
	}
}

// All instructions may stand in one block, whichever; a block's end is none.
func TestInstructionsOfOneBlock(t *testing.T) {
	for at := range api.MaxBlocks {
		f := function(api.MaxBlocks, 0, 0, 0)
		for n := 199; n <= 201; n++ {
			f.Blocks[at].Code = slices.Repeat([]api.Instr{{Op: api.Guard}}, n)
			is(t, program(f), within(n, 200))
		}
		f.Blocks[at].Code = f.Blocks[at].Code[:1]
		f.Blocks[(at+5)%api.MaxBlocks].Code = slices.Repeat([]api.Instr{{Op: api.Guard}}, 199)
		is(t, program(f), api.OK)
		f.Blocks[(at+9)%api.MaxBlocks].Code = []api.Instr{{Op: api.Guard}}
		is(t, program(f), api.ErrLimit)
	}
}

// Bounds are of each function alone: as many functions as there may be, each as great as may be.
func TestAllFunctionsGreat(t *testing.T) {
	var p api.Program
	for at := range api.MaxFuncs {
		f := function(api.MaxBlocks, api.MaxCode, api.MaxParams, api.MaxVars-api.MaxParams)
		f.Name = "fghijklm"[at : at+1]
		p.Funcs = append(p.Funcs, f)
		is(t, p, api.OK)
	}
	for at := range p.Funcs {
		for _, wrong := range []api.Func{function(33, 200, 6, 10), function(32, 201, 6, 10), function(32, 200, 6, 11)} {
			q := program(slices.Clone(p.Funcs)...)
			wrong.Name = q.Funcs[at].Name
			q.Funcs[at] = wrong
			is(t, q, api.ErrLimit)
		}
	}
	p.Funcs = append(p.Funcs, p.Funcs[0])
	is(t, p, api.ErrSyntax)
}

// Beyond what a text may have nothing is readable.
func TestBeyondTexts(t *testing.T) {
	for _, f := range []api.Func{function(257, 0, 0, 0), function(1, 1025, 0, 0), function(256, 1025, 0, 0), function(1, 0, 7, 0), function(1, 0, 7, 10), function(1, 0, 0, 1025), function(1, 0, 16, 0), function(1<<12, 1<<12, 0, 0)} {
		for _, p := range among(f) {
			is(t, p, api.ErrSyntax)
		}
	}
}
