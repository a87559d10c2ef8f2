package machine_test

import (
	"math"
	"math/rand"
	"reflect"
	"slices"
	"strings"
	"testing"

	"lateen/api"
	"lateen/machine"
)

// ends tells a fault, unless a run of s ends: then it neither Runs nor has done more than MaxFuel steps.
func ends(t *testing.T, p api.Program, s api.State, fuel int64, answers, fails []int64) api.State {
	t.Helper()
	l := machine.Run(p, s, fuel, answers, fails)
	if l.Status == api.Runs || l.Steps-s.Steps > api.MaxFuel {
		t.Fatalf("it isn't over: %.2000v", l)
	}
	if s.Status != api.Runs && s.Status != api.Spent && told(l) != told(s) {
		t.Fatalf("it doesn't stay: %.2000v", s)
	}
	machine.Pass(l)
	return l
}

// strange are arguments of any kind.
var strange = []api.Arg{{}, {Kind: api.KVar}, {Kind: api.KVar, S: "k"}, {Kind: api.KVar, S: "x"}, {Kind: api.KInt, N: math.MinInt64}, {Kind: api.KInt, N: 1, S: "k"}, {Kind: api.KFloat, N: -1}, {Kind: api.KNull, N: 5}, {Kind: api.KObj, N: -1}, {Kind: api.KObj, N: 1 << 40}, {Kind: -1}, {Kind: 99, S: "k"}}

// Instructions of each number, with no names and others, with any number of any arguments.
func TestWrongInstructions(t *testing.T) {
	for op := -2; op < 40; op++ {
		for _, name := range []string{"", "P", "a", "g", "e", "f", "h", "none"} {
			for _, dst := range []string{"", "x", "none"} {
				for at, a := range strange {
					for n := range 4 {
						i := api.Instr{Op: op, Dst: dst, Name: name, Args: slices.Repeat([]api.Arg{a, strange[(at+n)%len(strange)]}, 2)[:n]}
						p := api.Program{
							Classes: []api.Class{{Name: "P", Fields: []api.Var{{Name: "a", Type: "int"}}}},
							Globals: []api.Var{{Name: "g", Type: "int"}},
							Externs: []api.Extern{{Name: "e", N: 1}},
							Funcs:   []api.Func{{Name: "f", Params: []api.Var{{Name: "k", Type: "P"}}, Blocks: []api.Block{{Name: "a", Code: []api.Instr{i}, End: api.Term{Kind: api.Ret, A: a}}}}, {Name: "h"}},
						}
						s, _ := machine.Start(p, "f", nil)
						ends(t, p, s, 20, nil, nil)
					}
				}
			}
		}
	}
	for _, op := range []int{math.MinInt, math.MaxInt, 1 << 32, api.Call + 1<<32} {
		p := api.Program{Funcs: []api.Func{{Name: "f", Blocks: []api.Block{{Code: []api.Instr{{Op: op}}}}}}}
		s, _ := machine.Start(p, "f", nil)
		ends(t, p, s, 20, nil, nil)
	}
}

// Ends of each kind, with To and names that lead anywhere, and phis that are nothing from there.
func TestWrongEnds(t *testing.T) {
	for _, kind := range []int{-1, 0, 1, 2, 3, 4, 5, math.MaxInt, math.MinInt} {
		for _, to := range [][]string{nil, {""}, {"a"}, {"b"}, {"z"}, {"a", "a"}, {"b", "z"}, {"z", "b"}, {"b", "b", "b"}} {
			for _, a := range strange {
				for _, phis := range [][]api.Phi{nil, {{}}, {{Dst: "x"}, {Dst: "x", Ins: []api.In{{}, {Block: "z", A: a}}}}, {{Dst: "y", Ins: []api.In{{Block: "a", A: a}, {Block: "a"}, {Block: "b", A: a}}}}} {
					end := api.Term{Kind: kind, A: a, To: to, N: -5}
					p := api.Program{Funcs: []api.Func{{Name: "f", Blocks: []api.Block{{Name: "a", Phis: phis, End: end}, {Name: "b", Phis: phis, End: end}, {Name: "a"}}}}}
					s, _ := machine.Start(p, "f", nil)
					for _, fuel := range []int64{0, 1, 300} {
						ends(t, p, s, fuel, nil, nil)
					}
				}
			}
		}
	}
}

// States that no call answers: frames that stand nowhere, without variables, above others that stand at no call; numbers beyond all bounds.
func TestWrongStates(t *testing.T) {
	p := parsed(t, "class P/field a int/global g int/extern e 0/func f int/param k int/var x int/block a/x = ext e/x = gload g/gstore g x/guard/x = call h/out x/jump b/block b/branch k b c/block c/ret x/func h int/block a/ret 1")
	places := []int{0, 1, 4, 5, 6, 7, -1, math.MaxInt, math.MinInt}
	var frames []api.Live
	for _, name := range []string{"f", "h", "", "z"} {
		for _, block := range []string{"a", "b", "c", "", "z"} {
			for _, at := range places {
				frames = append(frames, api.Live{Func: name, Block: block, At: at})
			}
		}
	}
	below := []api.Live{{}, {Func: "f", Block: "a", At: 4}, {Func: "f", Block: "a", At: 3}, {Func: "f", Block: "a", At: 6}, {Func: "h", Block: "a"}, {Func: "z", Block: "a"}, {Func: "f", Block: "a", At: math.MaxInt}, {Func: "f", Block: "a", At: -1}}
	numbers := []int64{0, 1, -1, math.MaxInt64, math.MinInt64, api.MaxFuel, api.MaxFuel - 1}
	for _, status := range []int{api.Runs, api.Ended, api.Trapped, api.Spent, api.Failed, 5, -1, math.MaxInt} {
		for _, n := range numbers {
			s := api.State{Status: status, Steps: 1, Guards: n, Asked: n, Allocs: n, Code: n}
			ends(t, p, s, 30, []int64{5}, numbers)
			for _, l := range frames {
				s.Frames = []api.Live{l}
				ends(t, p, s, 30, []int64{5}, nil)
				machine.Pass(s)
				for _, under := range below {
					s.Frames = []api.Live{under, l}
					ends(t, p, s, 30, nil, nil)
				}
			}
		}
	}
}

// However few steps a state says that it has done, no more are done than there may be in all.
func TestStepsBelowZero(t *testing.T) {
	p := parsed(t, "func f int/param k int/block a/jump b/block b/k = add k 1/branch 1 b c/block c/ret k")
	for _, steps := range []int64{-1, -5, -api.MaxFuel, math.MinInt32, math.MinInt64, math.MinInt64 + 1} {
		s := start(t, p)
		s.Steps = steps
		for _, fuel := range []int64{math.MaxInt64, api.MaxFuel, 100, 0, -1, steps, math.MinInt64} {
			ends(t, p, s, fuel, nil, nil)
		}
	}
	for _, steps := range []int64{math.MaxInt64, api.MaxFuel, api.MaxFuel + 1} {
		s := start(t, p)
		s.Steps = steps
		for _, fuel := range []int64{math.MaxInt64, 100, -1, math.MinInt64} {
			if l := ends(t, p, s, fuel, nil, nil); l.Steps != steps || l.Status != api.Spent {
				t.Error(told(l))
			}
		}
	}
}

// A state of one program, run with another one, whose globals, fields, functions and blocks aren't its.
func TestAnotherProgram(t *testing.T) {
	var programs []api.Program
	byChance(19, 60, func(_ *rand.Rand, p api.Program) { programs = append(programs, p) })
	programs = append(programs, api.Program{}, api.Program{Funcs: make([]api.Func, 3)}, parsed(t, "func f int/param k0 int/block a/guard/ret k0"))
	for n, p := range programs[:60] {
		s := start(t, p, 1, 2, 3)
		for fuel := range int64(20) {
			l := machine.Run(p, s, fuel, nil, []int64{0})
			for _, q := range programs[n+1:] {
				ends(t, q, l, 40, nil, nil)
				ends(t, q, machine.Pass(l), 40, nil, nil)
			}
		}
	}
}

// spoil changes one thing in v, as chance has it.
func spoil(chance *rand.Rand, v reflect.Value) {
	var all []reflect.Value
	var walk func(v reflect.Value)
	walk = func(v reflect.Value) {
		switch v.Kind() {
		case reflect.Slice:
			all = append(all, v)
			for i := range v.Len() {
				walk(v.Index(i))
			}
		case reflect.Struct:
			for i := range v.NumField() {
				walk(v.Field(i))
			}
		default:
			all = append(all, v)
		}
	}
	walk(v)
	v = all[chance.Intn(len(all))]
	numbers := []int64{0, 1, 2, 3, 5, -1, 31, 34, math.MaxInt64, math.MinInt64}
	names := []string{"", "a", "b", "f", "g", "P", "i0", "v1", "int", "ref", "none"}
	switch v.Kind() {
	case reflect.Int, reflect.Int64:
		v.SetInt(numbers[chance.Intn(len(numbers))])
	case reflect.String:
		v.SetString(names[chance.Intn(len(names))])
	case reflect.Slice:
		if n := v.Len(); n > 0 {
			v.SetLen(chance.Intn(n))
		} else {
			v.Set(reflect.MakeSlice(v.Type(), 1, 1))
		}
	case reflect.Map:
		v.SetZero()
	case reflect.Bool:
		v.SetBool(!v.Bool())
	}
}

// Programs and states, some of whose parts aren't right.
func TestSpoiled(t *testing.T) {
	stood := map[int]int{}
	samples(t, 1500, func(g given) {
		chance := rand.New(rand.NewSource(int64(len(text(g.P)))))
		for range 4 {
			s := copied(g, false)
			for range 1 + chance.Intn(4) {
				if chance.Intn(2) == 0 {
					spoil(chance, reflect.ValueOf(&s.P).Elem())
				} else {
					spoil(chance, reflect.ValueOf(&s.S).Elem())
				}
			}
			machine.Start(s.P, "f", s.Args)
			machine.Start(s.P, s.Name, nil)
			stood[status(ends(t, s.P, s.S, min(s.S.Steps, api.MaxFuel-200)+200, s.Answers, s.Fails))]++
		}
	})
	if stood[api.Ended] < 100 || stood[api.Spent] < 100 || stood[api.Trapped] < 100 {
		t.Error(stood)
	}
}

// Functions that aren't right begin all the same, if there are any.
func TestWrongStarts(t *testing.T) {
	long := strings.Repeat("f", 1<<12)
	for _, f := range []api.Func{{}, {Name: "f"}, {Name: long}, {Blocks: make([]api.Block, 2)}, {Params: make([]api.Var, 20)}, {Params: []api.Var{{Name: "k", Type: "int"}, {Name: "k", Type: "float"}, {Name: "", Type: ""}}, Vars: make([]api.Var, 3)}} {
		p := api.Program{Classes: make([]api.Class, 9), Globals: make([]api.Var, 20), Externs: make([]api.Extern, 9), Funcs: []api.Func{f, {Name: f.Name, Result: "second"}}}
		for _, args := range [][]int64{nil, {1}, make([]int64, 100)} {
			s, e := machine.Start(p, f.Name, args)
			if e != api.OK || len(s.Frames) != 1 || s.Frames[0].Func != f.Name || len(s.Globals) != 20 {
				t.Errorf("%.100v: %d, %.300v", f, e, s)
			}
			ends(t, p, s, enough, args, args)
			if s, e := machine.Start(p, f.Name+"x", args); e != api.ErrNone || told(s) != "runs" {
				t.Error(e, s)
			}
		}
	}
}

// Of several things of one name the first one counts, as chapters 7 and 8 have it.
func TestFirstOfItsName(t *testing.T) {
	one := func(n int64) api.Arg { return api.Arg{Kind: api.KInt, N: n} }
	ret := func(n int64) api.Term { return api.Term{Kind: api.Ret, A: one(n)} }
	p := api.Program{
		Classes: []api.Class{
			{Name: "P", Fields: []api.Var{{Name: "a", Type: "int"}, {Name: "a", Type: "float"}}},
			{Name: "P", Fields: []api.Var{{Name: "b", Type: "int"}, {Name: "c", Type: "int"}, {Name: "a", Type: "int"}}},
		},
		Globals: []api.Var{{Name: "g", Type: "int"}, {Name: "g", Type: "float"}},
		Funcs: []api.Func{
			{Name: "f", Blocks: []api.Block{
				{Name: "a", Code: []api.Instr{
					{Op: api.Gstore, Name: "g", Args: []api.Arg{one(5)}},
					{Op: api.New, Dst: "p", Name: "P"},
					{Op: api.Store, Name: "a", Args: []api.Arg{{Kind: api.KVar, S: "p"}, one(6)}},
					{Op: api.Call, Dst: "x", Name: "h"},
				}, End: api.Term{Kind: api.Jump, To: []string{"b"}}},
				{Name: "b", End: ret(1)},
				{Name: "b", End: ret(2)},
				{Name: "a", End: ret(3)},
			}},
			{Name: "h", Blocks: []api.Block{{End: ret(4)}}},
			{Name: "f", Blocks: []api.Block{{End: ret(5)}}},
			{Name: "h", Blocks: []api.Block{{End: ret(6)}}},
		},
	}
	s := machine.Run(p, start(t, p), 4, nil, nil)
	hold(t, "called", s, "spent at f a 3 p=@1 at h  0 obj P(6 f0000000000000000) globals 5 f0000000000000000 allocs 1 steps 4")
	hold(t, "ended", machine.Run(p, s, enough, nil, nil), "ended 1 obj P(6 f0000000000000000) globals 5 f0000000000000000 allocs 1 steps 6")
}

// More than any program has, in programs that are none: calls end.
func TestVeryMuch(t *testing.T) {
	f := api.Func{Name: "f", Blocks: make([]api.Block, 1<<15)}
	for at := range f.Blocks {
		f.Blocks[at] = api.Block{Name: number(int64(at)), End: api.Term{Kind: api.Jump, To: []string{number(int64(at + 1))}}}
	}
	p := api.Program{Funcs: []api.Func{f}}
	s, _ := machine.Start(p, "f", nil)
	for again := int64(1); again < 4; again++ {
		s = ends(t, p, s, 1, nil, nil)
		if s.Frames[0].Block != number(again*api.MaxNodes) {
			t.Error(told(s))
		}
	}
	p.Funcs[0].Blocks[0] = api.Block{Name: "0", Code: []api.Instr{{Op: api.Call, Name: "f", Args: make([]api.Arg, 1<<10)}}, End: api.Term{Kind: api.Ret}}
	s, _ = machine.Start(p, "f", nil)
	if s = ends(t, p, s, 1<<12, nil, nil); len(s.Frames) != 1<<12+1 {
		t.Error(len(s.Frames))
	}
}
