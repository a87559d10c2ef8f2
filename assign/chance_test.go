package assign_test

import (
	"math"
	"math/rand"
	"slices"
	"strings"
	"testing"

	"lateen/api"
	"lateen/assign"
	"lateen/live"
)

// set answers an instruction that sets that variable.
func set(name string) api.Instr {
	return api.Instr{Op: api.Mov, Dst: name, Args: []api.Arg{{Kind: api.KInt, N: 1}}}
}

// out answers an instruction that uses that variable.
func out(name string) api.Instr {
	return api.Instr{Op: api.Out, Args: []api.Arg{variable(name)}}
}

// params answers parameters of these names.
func params(names ...string) []api.Var {
	var l []api.Var
	for _, name := range names {
		l = append(l, api.Var{Name: name, Type: "int"})
	}
	return l
}

// An end of a branch or a return alone uses its argument, and that only if it is a variable; wherever an end leads, whatever its kind.
func TestEnds(t *testing.T) {
	variables := []api.Arg{variable("x"), {Kind: api.KVar, S: "x", N: 9}}
	for _, kind := range []int{api.Jump, api.Branch, api.Ret, api.Trap, 0, -1, 5, math.MaxInt, math.MinInt} {
		for _, to := range [][]string{nil, {"b"}, {"b", "c"}, {"c", "d", "b"}} {
			for _, a := range append(variables, noVariables...) {
				f := api.Func{Blocks: []api.Block{{Name: "a", End: api.Term{Kind: kind, A: a, To: to, N: 3}}}}
				for _, name := range to {
					f.Blocks = append(f.Blocks, api.Block{Name: name, End: api.Term{Kind: api.Trap, A: variable("x")}})
				}
				ins := make([][]string, len(f.Blocks))
				hold(t, f, ins, a.Kind != api.KVar || kind != api.Branch && kind != api.Ret)
				for at := range ins {
					ins[at] = []string{"x"}
				}
				f.Params = params("x")
				hold(t, f, ins, true)
				f.Params, f.Blocks[0].Code, ins[0] = nil, []api.Instr{set("x")}, nil
				hold(t, f, ins, true)
			}
		}
	}
}

// Whatever an instruction is, it uses the variables that stand in it, and these alone, and sets its Dst, if that isn't empty.
func TestInstructions(t *testing.T) {
	ends := []api.Block{{Name: "b", End: api.Term{Kind: api.Ret}}}
	for op := -1; op < 37; op++ {
		for _, a := range append([]api.Arg{variable("x"), variable("y")}, noVariables...) {
			for at, i := range []api.Instr{
				{Args: []api.Arg{a}},
				{Args: []api.Arg{variable("y"), {}, a}},
				{Frames: []api.Frame{{Vars: []api.Bind{{Name: "x", A: a}}}}},
				{Frames: []api.Frame{{}, {Vars: []api.Bind{{Name: "x"}, {Name: "x", A: a}}}}},
				{Objs: []api.Virt{{Class: "x", Vals: []api.Arg{a}}}},
				{Objs: []api.Virt{{}, {Vals: []api.Arg{{}, a}}}},
			} {
				for _, dst := range []string{"", "x", "y", "z"} {
					i.Op, i.Dst, i.Name = op, dst, "x"
					f := api.Func{Params: params("y"), Blocks: append([]api.Block{{Name: "a", Code: []api.Instr{i}, End: api.Term{Kind: api.Jump, To: []string{"b"}}}}, ends...)}
					ins := [][]string{{"y"}, once([]string{"y", dst})}
					if dst == "" {
						ins[1] = ins[0]
					}
					if want := a.Kind != api.KVar || a.S == "y"; assign.Right(f) != want {
						t.Errorf("it is sound: %t, at %d: %+v", !want, at, i)
					}
					hold(t, f, ins, assign.Right(f))
				}
			}
		}
	}
}

// Names that no text has are names like all others; but an instruction without a Dst doesn't set the empty one.
func TestOddNames(t *testing.T) {
	odd := []string{"", " ", "a ", " a", "A", "a", "\x00", "a\x00", "\xff", "0", "-1", "#0", "null", "a\nb", "é", strings.Repeat("a", 1<<12)}
	all := api.Func{Params: params(odd...), Blocks: []api.Block{{Name: "", End: api.Term{Kind: api.Ret, A: variable("")}}}}
	hold(t, all, [][]string{once(odd)}, true)
	for _, name := range odd {
		f := api.Func{Blocks: []api.Block{
			{Name: name, Code: []api.Instr{set(name)}, End: api.Term{Kind: api.Jump, To: []string{name + "x"}}},
			{Name: name + "x", Phis: []api.Phi{{Dst: name + "y", Ins: []api.In{{Block: name, A: variable(name)}}}}, End: api.Term{Kind: api.Ret, A: variable(name + "y")}},
		}}
		ins := [][]string{nil, once([]string{name, name + "y"})}
		if name == "" {
			ins[1] = []string{"y"}
		}
		hold(t, f, ins, name != "")
		holdAsked(t, f)
		f.Params = params(name, name)
		ins = [][]string{{name}, once([]string{name, name + "y"})}
		hold(t, f, ins, true)
		holdAsked(t, f)
	}
}

// A name that two parameters have is told once.
func TestParametersOfOneName(t *testing.T) {
	f := api.Func{Params: params("x", "k", "x", "k", "x"), Blocks: []api.Block{{Name: "a", Code: []api.Instr{set("x"), set("x")}, End: api.Term{Kind: api.Jump, To: []string{"b"}}}, {Name: "b", End: api.Term{Kind: api.Ret, A: variable("k")}}}}
	hold(t, f, [][]string{{"k", "x"}, {"k", "x"}}, true)
}

// What a function says of its variables doesn't set them, nor does its name or its result.
func TestVarsAreNotSet(t *testing.T) {
	f := api.Func{Name: "x", Result: "x", Vars: params("x", "y"), Blocks: []api.Block{{Name: "x", Code: []api.Instr{out("x")}, End: api.Term{Kind: api.Jump, To: []string{"b"}}}, {Name: "b", Code: []api.Instr{set("y")}, End: api.Term{Kind: api.Ret, A: variable("y")}}}}
	hold(t, f, [][]string{nil, nil}, false)
	f.Blocks[0].Code[0] = set("z")
	hold(t, f, [][]string{nil, {"z"}}, true)
}

// byChance calls do with functions of up to eight blocks as chance has them (always the same), whose shape is right, and whose phis are right, most often.
func byChance(times int, do func(*rand.Rand, api.Func)) {
	chance := rand.New(rand.NewSource(13))
	for range times {
		do(chance, anyFunc(chance, strings.Split("v w x y z", " ")[:1+chance.Intn(5)]))
	}
}

// anyArg answers an argument as chance has it, a variable of these names every other time.
func anyArg(chance *rand.Rand, names []string) api.Arg {
	if chance.Intn(2) == 0 {
		return noVariables[chance.Intn(len(noVariables))]
	}
	return variable(names[chance.Intn(len(names))])
}

// anyInstr answers an instruction as chance has it: more often one that sets than one that uses variables.
func anyInstr(chance *rand.Rand, names []string) api.Instr {
	i := api.Instr{Op: chance.Intn(36), Name: "n"}
	if at := chance.Intn(len(names) + 2); at < len(names) {
		i.Dst = names[at]
	}
	switch chance.Intn(8) {
	case 0, 1:
		i.Args = []api.Arg{anyArg(chance, names), anyArg(chance, names)}
	case 2:
		i.Frames = []api.Frame{{Func: "g"}, {Func: "h", Vars: []api.Bind{{Name: "x", A: anyArg(chance, names)}}}}
	case 3:
		i.Objs = []api.Virt{{Class: "P", Vals: []api.Arg{anyArg(chance, names), {Kind: api.KObj}}}}
	}
	return i
}

// anyFunc answers a function as chance has it, with variables of these names.
func anyFunc(chance *rand.Rand, names []string) api.Func {
	f := api.Func{Blocks: make([]api.Block, 1+chance.Intn(8))}
	for _, name := range names {
		if chance.Intn(3) == 0 {
			f.Params = append(f.Params, params(name)...)
		}
	}
	for at, name := range chance.Perm(len(f.Blocks)) {
		b := &f.Blocks[at]
		b.Name = "abcdefgh"[name : name+1]
		b.End = api.Term{Kind: chance.Intn(6), A: anyArg(chance, names)}
		for range chance.Intn(4) {
			b.Code = append(b.Code, anyInstr(chance, names))
		}
	}
	lead(chance, f)
	for at := range f.Blocks {
		layPhis(chance, f, at, names)
	}
	chance.Shuffle(len(f.Blocks)-1, func(i, j int) { f.Blocks[i+1], f.Blocks[j+1] = f.Blocks[j+1], f.Blocks[i+1] })
	return f
}

// lead has blocks of f lead to others, as chance has it: one to each but the first, and some more.
func lead(chance *rand.Rand, f api.Func) {
	n := len(f.Blocks)
	step := func(from, to int) {
		end := &f.Blocks[from].End
		if name := f.Blocks[to].Name; to > 0 && !slices.Contains(end.To, name) {
			end.To = append(end.To, name)
		}
	}
	for to := 1; to < n; to++ {
		step(chance.Intn(to), to)
	}
	for range chance.Intn(7) {
		step(chance.Intn(n), chance.Intn(n))
	}
}

// layPhis lays phis into a block of f, as chance has it: some of them aren't right.
func layPhis(chance *rand.Rand, f api.Func, to int, names []string) {
	b := &f.Blocks[to]
	for range max(0, chance.Intn(5)-2) {
		p := api.Phi{Dst: names[chance.Intn(len(names))]}
		for _, from := range f.Blocks {
			if slices.Contains(from.End.To, b.Name) != (chance.Intn(20) == 0) {
				p.Ins = append(p.Ins, api.In{Block: from.Name, A: anyArg(chance, names)})
			}
		}
		b.Phis = append(b.Phis, p)
	}
}

// Greater functions, against another way of asking.
func TestByChance(t *testing.T) {
	sound, set := 0, 0
	byChance(20000, func(_ *rand.Rand, f api.Func) {
		if holdAsked(t, f) {
			sound++
		}
		for _, names := range assign.Ins(f) {
			set += len(names)
		}
	})
	if sound < 5000 || sound > 15000 || set < 100000 {
		t.Error(sound, set)
	}
}

// All functions of up to three blocks, with what a block may be made of.
func TestSmallFunctions(t *testing.T) {
	codes := [][]api.Instr{nil, {set("x")}, {out("x")}, {{Dst: "x", Args: []api.Arg{variable("x")}}}, {{Dst: "y", Args: []api.Arg{variable("x")}}}, {set("x"), out("y")}}
	for _, to := range [][][]string{{nil}, {{"b"}, nil}, {{"b"}, {"b"}}, {{"b", "c"}, nil, nil}, {{"b"}, {"c"}, nil}, {{"c"}, nil, {"b"}}, {{"b", "c"}, {"c"}, nil}, {{"b"}, {"c"}, {"b"}}, {{"c", "b"}, {"c"}, {"b"}}, {{"b"}, {"b", "c"}, {"c"}}, {{"b"}, {"c", "b"}, {"c", "b"}}} {
		f := api.Func{Blocks: make([]api.Block, len(to))}
		var lay func(at int)
		lay = func(at int) {
			if at == len(to) {
				eachPhi(f, func(f api.Func) { holdAsked(t, f) })
				return
			}
			for _, code := range codes {
				f.Blocks[at] = api.Block{Name: "abc"[at : at+1], Code: code, End: api.Term{To: to[at]}}
				lay(at + 1)
			}
		}
		lay(0)
	}
}

// eachPhi calls do with no phis in f, and then with some of up to three blocks in its second and its last one, without a parameter and with one.
func eachPhi(f api.Func, do func(api.Func)) {
	for _, f.Params = range [][]api.Var{nil, params("x")} {
		do(f)
		if len(f.Blocks) == 1 {
			continue
		}
		for _, at := range []int{1, len(f.Blocks) - 1} {
			b := &f.Blocks[at]
			for _, dst := range []string{"x", "y"} {
				for _, ins := range [][]api.In{{{Block: "a", A: variable("x")}}, {{Block: "b", A: variable("x")}, {Block: "a", A: variable("y")}}, {{Block: "c", A: variable("y")}, {Block: "b", A: variable("x")}, {Block: "a"}}} {
					b.Phis = []api.Phi{{Dst: dst, Ins: ins}}
					do(f)
					b.Phis = nil
				}
			}
		}
	}
}

// What follows: of sound functions, and of others whose parameters are made to be what is live at the first place of all; without one of these they aren't sound.
func TestFollows(t *testing.T) {
	many := 0
	byChance(10000, func(chance *rand.Rand, f api.Func) {
		many += follows(t, f)
		names := live.At(f, 0, 0)
		f.Params = params(names...)
		if follows(t, f) != len(names) {
			t.Fatalf("with all that is live at first as parameters it isn't sound: %+v", f)
		}
		if len(names) > 0 {
			at := chance.Intn(len(names))
			f.Params = params(slices.Delete(names, at, at+1)...)
			if assign.Right(f) {
				t.Fatalf("it is sound, but for one that is live at first: %+v", f)
			}
		}
	})
	if many < 1000 {
		t.Error(many)
	}
}

// Blocks in another order, and parameters, phis and their Ins likewise, change nothing.
func TestOtherOrders(t *testing.T) {
	byChance(3000, func(chance *rand.Rand, f api.Func) {
		right, want := assign.Right(f), map[string][]string{}
		for at, names := range assign.Ins(f) {
			want[f.Blocks[at].Name] = names
		}
		for range 3 {
			mix(chance, f)
			ins := make([][]string, len(f.Blocks))
			for at, b := range f.Blocks {
				ins[at] = want[b.Name]
			}
			hold(t, f, ins, right)
		}
	})
}

// mix lays what stands in f in another order, as chance has it, but for the first block and the instructions.
func mix(chance *rand.Rand, f api.Func) {
	shuffle(chance, f.Params)
	shuffle(chance, f.Blocks[1:])
	for _, b := range f.Blocks {
		shuffle(chance, b.Phis)
		shuffle(chance, b.End.To)
		for _, p := range b.Phis {
			shuffle(chance, p.Ins)
		}
	}
}

// shuffle lays l in another order, as chance has it.
func shuffle[T any](chance *rand.Rand, l []T) {
	chance.Shuffle(len(l), func(i, j int) { l[i], l[j] = l[j], l[i] })
}
