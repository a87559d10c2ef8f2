package assign_test

import (
	"slices"
	"strconv"
	"testing"

	"lateen/api"
	"lateen/assign"
)

// number answers a name for each number.
func number(n int) string {
	return "v" + strconv.Itoa(n)
}

// numbers answers the names of all numbers below n, rising.
func numbers(n int) []string {
	var l []string
	for at := range n {
		l = append(l, number(at))
	}
	return once(l)
}

// great answers a function of n blocks with the parameter k, each of which leads to those that to tells and has what code tells, laid in the order of their numbers or, but for the first one, the other way round.
func great(n int, backward bool, to func(at int) []int, code func(at int) []api.Instr) api.Func {
	f := api.Func{Params: params("k"), Blocks: make([]api.Block, n)}
	for at := range n {
		b := &f.Blocks[at]
		b.Name, b.Code = number(at), code(at)
		for _, next := range once(names(n, to(at))) {
			b.End.To = append(b.End.To, next)
		}
	}
	if backward {
		slices.Reverse(f.Blocks[1:])
	}
	return f
}

// names answers the names of those of l that are numbers of blocks of n to which one may lead.
func names(n int, l []int) []string {
	var all []string
	for _, at := range l {
		if at > 0 && at < n {
			all = append(all, number(at))
		}
	}
	return all
}

// waysOn tells how n blocks may lead to one another, so that long ways lead through all of them.
func waysOn(n int) map[string]func(at int) []int {
	return map[string]func(at int) []int{
		"one behind another": func(at int) []int { return []int{at + 1} },
		"round":              func(at int) []int { return []int{at%(n-1) + 1} },
		"to and fro":         func(at int) []int { return []int{at - 1, at + 1} },
		"two ahead":          func(at int) []int { return []int{at + 1, at + 2} },
		"back to 1":          func(at int) []int { return []int{1, at + 1} },
		"back to half":       func(at int) []int { return []int{at / 2, at + 1} },
		"to the last one":    func(at int) []int { return []int{at + 1, n - 1} },
		"the last one first": func(at int) []int { return []int{(at + n - 1) % n, at - 1} },
	}
}

// Long ways: what is set at their beginning is set all along, and what isn't, isn't, in whichever order blocks stand.
func TestLongWays(t *testing.T) {
	const n = 1 << 14
	for name, to := range waysOn(n) {
		for _, backward := range []bool{false, true} {
			f := great(n, backward, to, func(at int) []api.Instr {
				if at == 0 {
					return []api.Instr{set("x")}
				}
				return []api.Instr{out("x"), out("k"), set("y")}
			})
			ins, right := assign.Ins(f), assign.Right(f)
			if len(ins) != n || !right || !slices.Equal(ins[0], []string{"k"}) {
				t.Fatalf("%s: %d, %t, %q", name, len(ins), right, ins[0])
			}
			for at, names := range ins[1:] {
				if names = slices.DeleteFunc(names, func(name string) bool { return name == "y" }); !slices.Equal(names, []string{"k", "x"}) {
					t.Fatalf("%s: %q are set at %d", name, names, at+1)
				}
			}
			f.Blocks[0].Code = nil
			if assign.Right(f) {
				t.Errorf("%s: it is sound without x", name)
			}
		}
	}
}

// What the first block of a long way sets isn't set behind it, if ways lead around it to each of the others.
func TestLongWaysThatAreCut(t *testing.T) {
	const n = 1 << 10
	for name, to := range map[string]func(at int) []int{
		// To each of them from the function's first block.
		"from the first one": func(at int) []int {
			if at == 0 {
				l := make([]int, n)
				for at := range l {
					l[at] = at
				}
				return l
			}
			return []int{at + 1}
		},
		// From the function's first block to the last one, too, and from there back, one by one.
		"back, one by one": func(at int) []int {
			if at == 0 {
				return []int{1, n - 1}
			}
			return []int{at - 1, at + 1}
		},
	} {
		for _, backward := range []bool{false, true} {
			f := great(n, backward, to, func(at int) []api.Instr {
				if at == 1 {
					return []api.Instr{set("x")}
				}
				return nil
			})
			for at, names := range assign.Ins(f) {
				if !slices.Equal(names, []string{"k"}) {
					t.Fatalf("%s: %q are set at %s", name, names, f.Blocks[at].Name)
				}
			}
			last := slices.IndexFunc(f.Blocks, func(b api.Block) bool { return b.Name == number(n-1) })
			f.Blocks[last].Code = []api.Instr{out("k")}
			if !assign.Right(f) {
				t.Errorf("%s: it isn't sound", name)
			}
			f.Blocks[last].Code = []api.Instr{out("x")}
			if assign.Right(f) {
				t.Errorf("%s: it is sound", name)
			}
		}
	}
}

// Each block of a row sets a variable of its own, and uses that of the one ahead: all that is set is set all along behind; in a round likewise, for one comes in at its beginning.
func TestRowOfManyVariables(t *testing.T) {
	const n = 500
	for name, to := range map[string]func(at int) []int{"one behind another": waysOn(n)["one behind another"], "round": waysOn(n)["round"], "to and fro": waysOn(n)["to and fro"]} {
		for _, backward := range []bool{false, true} {
			f := great(n, backward, to, func(at int) []api.Instr {
				if at == 0 {
					return []api.Instr{set(number(0))}
				}
				return []api.Instr{out(number(at - 1)), out(number(0)), set(number(at))}
			})
			ins := assign.Ins(f)
			for at := range n {
				block := at
				if backward && at > 0 {
					block = n - at
				}
				if !slices.Equal(ins[block], once(append(numbers(at), "k"))) {
					t.Fatalf("%s: %d are set at %d", name, len(ins[block]), at)
				}
			}
			if !assign.Right(f) {
				t.Errorf("%s: it isn't sound", name)
			}
			f.Blocks[0].Code = nil
			if assign.Right(f) {
				t.Errorf("%s: it is sound", name)
			}
		}
	}
}

// One leads to very many, all of which lead to one: whose phis use a variable of its own from each.
func TestVeryManyWays(t *testing.T) {
	const n = 1 << 13
	f := great(n, false, func(at int) []int {
		if at > 0 {
			return []int{n - 1}
		}
		l := make([]int, n-1)
		for at := range l {
			l[at] = at
		}
		return l
	}, func(at int) []api.Instr { return []api.Instr{set(number(at)), set("y")} })
	f.Blocks[n-1].End.To = nil
	p := api.Phi{Dst: "x"}
	for at := n - 2; at > 0; at-- {
		p.Ins = append(p.Ins, api.In{Block: number(at), A: variable(number(at))})
	}
	f.Blocks[n-1].Phis = []api.Phi{p}
	ins := assign.Ins(f)
	for at := 1; at < n-1; at++ {
		if !slices.Equal(ins[at], []string{"k", number(0), "y"}) {
			t.Fatalf("%q are set at %d", ins[at], at)
		}
	}
	if !slices.Equal(ins[n-1], []string{"k", number(0), "x", "y"}) || !assign.Right(f) {
		t.Errorf("%q are set at last", ins[n-1])
	}
	// One of them sets another one.
	for _, at := range []int{1, n / 2, n - 2} {
		was := f.Blocks[at].Code
		f.Blocks[at].Code = []api.Instr{set("z")}
		if assign.Right(f) || !slices.Equal(assign.Ins(f)[n-1], []string{"k", number(0), "x", "y"}) {
			t.Errorf("%d makes no difference", at)
		}
		f.Blocks[at].Code = was
	}
}

// Very many instructions in one block, and very many parameters.
func TestLongBlocks(t *testing.T) {
	const n = 1 << 16
	f := api.Func{Blocks: []api.Block{{Name: "a", End: api.Term{Kind: api.Jump, To: []string{"b"}}}, {Name: "b", End: api.Term{Kind: api.Ret, A: variable(number(n - 1))}}}}
	for at := range n {
		f.Blocks[0].Code = append(f.Blocks[0].Code, set(number(at)), out(number(at/2)))
	}
	if ins := assign.Ins(f); len(ins) != 2 || len(ins[0]) > 0 || !slices.Equal(ins[1], numbers(n)) || !assign.Right(f) {
		t.Error("not all are set")
	}
	f.Blocks[0].Code[n/2] = out(number(n - 1))
	if assign.Right(f) {
		t.Error("it is sound")
	}
	f.Params = params(numbers(n)...)
	if ins := assign.Ins(f); !slices.Equal(ins[0], numbers(n)) || !slices.Equal(ins[1], numbers(n)) || !assign.Right(f) {
		t.Error("not all parameters are set")
	}
}
