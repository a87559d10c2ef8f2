package live_test

import (
	"slices"
	"testing"

	"lateen/api"
	"lateen/live"
)

// out answers an instruction that uses that variable.
func out(name string) api.Instr {
	return api.Instr{Op: api.Out, Args: []api.Arg{variable(name)}}
}

// great answers a function of n blocks, each of which leads to those that to tells and has what code tells, laid in the order of their numbers or, but for the first one, the other way round.
func great(n int, backward bool, to func(at int) []int, code func(at int) []api.Instr) api.Func {
	f := api.Func{Blocks: make([]api.Block, n)}
	for at := range n {
		b := &f.Blocks[at]
		b.Name, b.Code = number(at), code(at)
		for _, next := range to(at) {
			b.End.To = append(b.End.To, number(next))
		}
	}
	if backward {
		slices.Reverse(f.Blocks[1:])
	}
	return f
}

// from answers those of l that are numbers from first to last, each once.
func from(first, last int, l ...int) []int {
	slices.Sort(l)
	return slices.DeleteFunc(slices.Compact(l), func(at int) bool { return at < first || at > last })
}

// onlyAt answers code that has i in the block of that number alone.
func onlyAt(one int, i api.Instr) func(int) []api.Instr {
	return func(at int) []api.Instr {
		if at == one {
			return []api.Instr{i}
		}
		return nil
	}
}

// Long ways, on which what is used at their end is live all along: all is told soon, in whichever order blocks stand.
func TestLongWays(t *testing.T) {
	const n = 1 << 16
	for name, to := range map[string]func(at int) []int{
		"one behind another": func(at int) []int { return from(1, n-1, at+1) },
		"round":              func(at int) []int { return []int{at%(n-1) + 1} },
		"to and fro":         func(at int) []int { return from(1, n-1, at-1, at+1) },
		"two ahead":          func(at int) []int { return from(1, n-1, at+1, at+2) },
		"back to 1":          func(at int) []int { return from(1, n-1, 1, at+1) },
		"back to half":       func(at int) []int { return from(1, n-1, at/2, at+1) },
	} {
		for _, backward := range []bool{false, true} {
			f := great(n, backward, to, onlyAt(n-1, out("k")))
			for at, names := range live.Ins(f) {
				if !slices.Equal(names, []string{"k"}) {
					t.Fatalf("%s: %q are live at %d", name, names, at)
				}
			}
			if got := live.At(f, 0, 0); !slices.Equal(got, []string{"k"}) {
				t.Fatalf("%s: %q are live at first", name, got)
			}
		}
	}
}

// Each block of a long round uses a variable of its own: all of them are live everywhere.
func TestRoundOfManyVariables(t *testing.T) {
	const n = 1000
	var want []string
	for at := range n {
		want = append(want, number(at))
	}
	for _, backward := range []bool{false, true} {
		for _, to := range []func(int) []int{
			func(at int) []int { return []int{at%(n-1) + 1} },
			func(at int) []int { return from(1, n-1, at%(n-1)+1, n-1-at%(n-2)) },
		} {
			f := great(n, backward, to, func(at int) []api.Instr { return []api.Instr{out(number(at))} })
			for at, names := range live.Ins(f) {
				if at > 0 && !slices.Equal(names, want[1:]) || at == 0 && !slices.Equal(names, want) {
					t.Fatalf("%d are live at %d", len(names), at)
				}
			}
		}
	}
}

// Each block sets what the next one uses: nothing else is live.
func TestRowOfManyVariables(t *testing.T) {
	const n = 1 << 16
	f := great(n, true, func(at int) []int { return from(1, n-1, at+1) }, func(at int) []api.Instr {
		return []api.Instr{out(number(at)), {Op: api.Mov, Dst: number(at + 1)}}
	})
	for at, names := range live.Ins(f) {
		if !slices.Equal(names, []string{f.Blocks[at].Name}) {
			t.Fatalf("%q are live at %d", names, at)
		}
	}
}

// One leads to very many, all of which lead to one: whose phis use a variable of its own from each.
func TestVeryManyWays(t *testing.T) {
	const n = 1 << 16
	var midst []int
	for at := 1; at < n-1; at++ {
		midst = append(midst, at)
	}
	f := great(n, false, func(at int) []int {
		if at == 0 {
			return midst
		}
		return from(at+1, n-1, n-1)
	}, onlyAt(n-1, out("x")))
	p := api.Phi{Dst: "x"}
	for at := n - 2; at > 0; at-- {
		p.Ins = append(p.Ins, api.In{Block: number(at), A: variable(number(at))})
	}
	f.Blocks[n-1].Phis = []api.Phi{p}
	all := live.All(f)
	for at := 1; at < n-1; at++ {
		if !same(all[at], lists{{number(at)}}) {
			t.Fatalf("%q are live in %d", all[at], at)
		}
	}
	if len(all[0][0]) != n-2 || !slices.IsSorted(all[0][0]) || !same(all[n-1], lists{{"x"}, nil}) {
		t.Errorf("%d are live at first, and %q at last", len(all[0][0]), all[n-1])
	}
}

// Very many instructions in one block.
func TestLongBlocks(t *testing.T) {
	const n = 1 << 17
	row := api.Func{Blocks: []api.Block{{End: api.Term{Kind: api.Ret, A: variable("x")}}}}
	wide := api.Func{Blocks: []api.Block{{}}}
	for at := range n {
		row.Blocks[0].Code = append(row.Blocks[0].Code, api.Instr{Op: api.Add, Dst: "x", Args: []api.Arg{variable("x"), variable("y")}})
		wide.Blocks[0].Code = append(wide.Blocks[0].Code, out(number(at)))
	}
	all := live.All(row)[0]
	for at, names := range all {
		if at < n && !slices.Equal(names, []string{"x", "y"}) || at == n && !slices.Equal(names, []string{"x"}) {
			t.Fatalf("%q are live at %d", names, at)
		}
	}
	for _, at := range []int{0, 1, n / 2, n - 1, n, n + 1} {
		got := live.At(wide, 0, at)
		if len(got) != max(0, n-at) || len(got) > 0 && (got[0] != number(at) || !slices.IsSorted(got)) {
			t.Errorf("%d are live at %d", len(got), at)
		}
	}
	if len(all) != n+1 || len(live.Ins(wide)[0]) != n {
		t.Error("not all are told")
	}
}

// Many variables at many places.
func TestManyAtMany(t *testing.T) {
	const n = 1000
	f := api.Func{Blocks: []api.Block{{}}}
	b := &f.Blocks[0]
	for at := range n {
		b.Code = append(b.Code, api.Instr{Op: api.Mov, Dst: number(at)})
	}
	for at := range n {
		b.Code = append(b.Code, out(number(n-1-at)))
	}
	all := live.All(f)[0]
	for at, names := range all {
		many := min(at, 2*n-at)
		if len(names) != many || many > 0 && (names[0] != number(0) || names[many-1] != number(many-1)) {
			t.Fatalf("%d are live at %d", len(names), at)
		}
	}
	if len(all) != 2*n+1 {
		t.Error(len(all))
	}
}
