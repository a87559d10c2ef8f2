package syntax_test

import (
	"math/rand"
	"slices"
	"strings"
	"testing"

	"lateen/api"
	"lateen/syntax"
)

// candidates are lines of each kind, right ones and wrong ones.
func candidates() []string {
	l := strings.Split(strings.TrimSpace(sample), "\n")
	l = append(l, strings.Split("ssa ssa|class|class 1|class C D|field a|field a null|field a float|field a b c|global|global g|global g 1|extern e|extern e 9|extern e -1|extern e x|extern e 00|extern 1 1|func f|func f 1|func null int|func f int int|param p null|param p|var v|var int int|block|block b b|block 1|phi|phi x|phi x b|phi x b 1 c|phi x b #0|phi 1 b 1|phi x 1 b|at|at f|at f b|at f b x|at f b -1|at f b 1025|at f b 1 x|at f b 1 x 1 y|at f b 1 1 x|at f b 1 x #1000|at int b 1|at f 1 1|obj|obj 1|obj P #1000|obj P 1 2 3 4 5 6 7 8 9|obj P a.b|jump|jump 1|jump a b|branch|branch 1 a|branch 1 a b c|branch #0 a b|branch a 1 b|branch 0f0000000000000000 a b|ret|ret #0|ret 1 1|ret a|trap|trap x|trap 9223372036854775807|trap -9223372036854775808|trap 9223372036854775808|trap 10 11|trap null|trap 0f0000000000000000|trap -0|trap 0|x|=|jump =|at =|obj = 1", "|")...)
	return l
}

// Each kind of line at each place: ahead of all, behind each line of the sample, instead of each one; and each line of the sample missing, doubled, or changed with the next one.
func TestLinesAtAllPlaces(t *testing.T) {
	t.Parallel()
	m := newMeasure()
	all := strings.Split(strings.TrimSpace(sample), "\n")
	hold := func(l ...[]string) { m.hold(t, strings.Join(slices.Concat(l...), "\n")) }
	hold(all)
	for at := range len(all) + 1 {
		// A text may end anywhere.
		hold(all[:at])
		for _, line := range candidates() {
			hold(all[:at], []string{line}, all[at:])
			hold(all[:at], []string{line})
			if at < len(all) {
				hold(all[:at], []string{line}, all[at+1:])
			}
		}
		if at < len(all) {
			hold(all[:at], all[at+1:])
		}
		if at+1 < len(all) {
			hold(all[:at], []string{all[at+1], all[at]}, all[at+2:])
		}
	}
}

// Each word of the sample missing, doubled, or changed for another one, and other words ahead of each one and behind the last one of its line.
func TestWordsAtAllPlaces(t *testing.T) {
	t.Parallel()
	m := newMeasure()
	others := strings.Fields("x b0 P add store guard call new load ret phi at obj = int float null 0 5 -5 8 9 1024 1025 9223372036854775808 0f3ff0000000000000 0f7ff8000000000001 0f3ff #0 #999 #1000 #-1 a.b aaaaaaaaaaaaaaaa aaaaaaaaaaaaaaaaa 1x - ; ssa")
	all := strings.Split(strings.TrimSpace(sample), "\n")
	for at := range all {
		words := strings.Fields(all[at])
		hold := func(l ...[]string) {
			line := strings.Join(slices.Concat(l...), " ")
			m.hold(t, strings.Join(slices.Concat(all[:at], []string{line}, all[at+1:]), "\n"))
		}
		for i := range words {
			hold(words[:i], words[i+1:])
			hold(words[:i+1], words[i:])
			for _, w := range others {
				hold(words[:i], []string{w}, words[i+1:])
				hold(words[:i], []string{w}, words[i:])
			}
		}
		for _, w := range others {
			hold(words, []string{w})
			hold(words, []string{w, w})
		}
	}
}

// Lines in any order, as chance has them (always the same one).
func TestLinesInAnyOrder(t *testing.T) {
	t.Parallel()
	m := newMeasure()
	chance := rand.New(rand.NewSource(5))
	l := candidates()
	for range 30000 {
		text := ""
		if chance.Intn(3) > 0 {
			text = "func f int\nparam p int\nblock b\n"
		}
		for range chance.Intn(12) {
			text += l[chance.Intn(len(l))] + "\n"
		}
		m.hold(t, text)
	}
}

// Programs as chance has them, written and read.
func TestParseOfWritten(t *testing.T) {
	t.Parallel()
	m := newMeasure()
	chance := rand.New(rand.NewSource(7))
	for range 50 {
		text := write(someProgram(chance))
		if _, at, e := syntax.Parse(text); e != api.OK {
			t.Fatalf("%s\nis %d %d", text, at, e)
		}
		m.hold(t, text)
	}
}

func someProgram(r *rand.Rand) api.Program {
	p := api.Program{SSA: r.Intn(2) == 0}
	for range r.Intn(9) {
		p.Classes = append(p.Classes, api.Class{Name: someName(r), Fields: someVars(r, 9)})
	}
	p.Globals = someVars(r, 9)
	for range r.Intn(9) {
		p.Externs = append(p.Externs, api.Extern{Name: someName(r), N: r.Intn(9)})
	}
	for range r.Intn(9) {
		f := api.Func{Name: someName(r), Result: someType(r), Params: someVars(r, 7), Vars: someVars(r, 40)}
		for range 1 + r.Intn(6) {
			f.Blocks = append(f.Blocks, someBlock(r))
		}
		p.Funcs = append(p.Funcs, f)
	}
	return p
}

func someName(r *rand.Rand) string {
	return []string{"a", "b", "x", "_", "add", "ret", "at", "block", "Abcdefghijklmno9"}[r.Intn(9)]
}

func someType(r *rand.Rand) string {
	return []string{"int", "float", someName(r)}[r.Intn(3)]
}

func someVars(r *rand.Rand, below int) []api.Var {
	var l []api.Var
	for range r.Intn(below) {
		l = append(l, api.Var{Name: someName(r), Type: someType(r)})
	}
	return l
}

func someArg(r *rand.Rand, kinds int) api.Arg {
	return []api.Arg{variable(someName(r)), number(r.Int63() - r.Int63()), float(r.Int63n(0x7ff0000000000001)), null(), object(r.Int63n(1000))}[r.Intn(kinds)]
}

func someArgs(r *rand.Rand, n, kinds int) []api.Arg {
	var l []api.Arg
	for range n {
		l = append(l, someArg(r, kinds))
	}
	return l
}

func someBlock(r *rand.Rand) api.Block {
	b := api.Block{Name: someName(r)}
	for range r.Intn(4) {
		p := api.Phi{Dst: someName(r)}
		for range 1 + r.Intn(20) {
			p.Ins = append(p.Ins, api.In{Block: someName(r), A: someArg(r, 4)})
		}
		b.Phis = append(b.Phis, p)
	}
	for range r.Intn(40) {
		b.Code = append(b.Code, someInstr(r))
	}
	b.End = []api.Term{
		{Kind: api.Jump, To: []string{someName(r)}},
		{Kind: api.Branch, A: someArg(r, 4), To: []string{someName(r), someName(r)}},
		{Kind: api.Ret, A: someArg(r, 4)},
		{Kind: api.Trap, N: r.Int63() - r.Int63()},
	}[r.Intn(4)]
	return b
}

func someInstr(r *rand.Rand) api.Instr {
	op := 1 + r.Intn(34)
	f, _ := syntax.Of(op)
	i := api.Instr{Op: op, Args: someArgs(r, f.Least+r.Intn(f.Most-f.Least+1), 4)}
	if f.Dst {
		i.Dst = someName(r)
	}
	if f.Named {
		i.Name = someName(r)
	}
	if op != api.Call && op != api.Guard {
		return i
	}
	for range r.Intn(17) {
		frame := api.Frame{Func: someName(r), Block: someName(r), At: r.Intn(1025)}
		for range r.Intn(17) {
			frame.Vars = append(frame.Vars, api.Bind{Name: someName(r), A: someArg(r, 5)})
		}
		i.Frames = append(i.Frames, frame)
	}
	for range r.Intn(100) {
		i.Objs = append(i.Objs, api.Virt{Class: someName(r), Vals: someArgs(r, r.Intn(9), 5)})
	}
	return i
}
