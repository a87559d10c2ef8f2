package types_test

import (
	"math"
	"math/rand"
	"slices"
	"strconv"
	"strings"
	"testing"

	"lateen/api"
	"lateen/types"
)

// Each kind of end, with each argument, in functions of each result.
func TestEnd(t *testing.T) {
	f := parsed(t, heads)
	in := f.Funcs[len(f.Funcs)-1]
	for _, result := range strings.Fields("int float P Q R Z") {
		in.Result = result
		for _, a := range many() {
			for _, to := range [][]string{nil, {}, {"b"}, {"b", "c"}} {
				for _, n := range []int64{0, 10} {
					fits := a.t == result || a.t == "null" && result != "int" && result != "float"
					for kind, want := range map[int]bool{api.Jump: true, api.Branch: a.t == "int", api.Ret: fits, api.Trap: n >= 10} {
						if e := (api.Term{Kind: kind, A: a.a, To: to, N: n}); types.End(in, e) != want {
							t.Errorf("%+v, where the result is %s, isn't %v", e, result, want)
						}
					}
				}
			}
		}
	}
	for n, want := range map[int64]bool{math.MinInt64: false, -10: false, -1: false, 0: false, 1: false, 2: false, 9: false, 10: true, 11: true, 1 << 32: true, math.MaxInt64: true} {
		if types.End(in, api.Term{Kind: api.Trap, N: n}) != want {
			t.Errorf("trap %d isn't %v", n, want)
		}
	}
	for _, kind := range []int{0, -1, -2, api.Trap + 1, math.MaxInt, math.MinInt, 1<<32 + 1} {
		for _, a := range many() {
			if e := (api.Term{Kind: kind, A: a.a, To: []string{"b"}, N: 10}); types.End(in, e) {
				t.Errorf("%+v is right", e)
			}
		}
	}
}

// Ends of a function of which nothing is known: an argument without a type fits nothing, not even a type without a word.
func TestEndOfNoFunction(t *testing.T) {
	for _, a := range []api.Arg{{}, object(0), variable(""), variable("x"), {Kind: 6}} {
		for _, kind := range []int{0, api.Branch, api.Ret} {
			if types.End(api.Func{}, api.Term{Kind: kind, A: a}) {
				t.Errorf("%d %+v is right", kind, a)
			}
		}
	}
}

func TestHeads(t *testing.T) {
	base := "class P\nfield a int\nfield n P\nclass Q\nglobal g int\nglobal h Q\nextern e 1\nfunc f P\nparam k int\nparam p Q\nvar x float\nvar q P\nblock b\njump b\n"
	for text, want := range map[string]bool{
		"": true, "ssa\n": true, "class P\n": true, "global g int\n": true, "extern e 0\n": true, base: true, "ssa\n" + base: true,
		// Two of one name, one behind the other or not, alike or not.
		base + "class P\n": false, base + "class Q\nfield z int\n": false, base + "class R\n": true,
		base + "class R\nfield a int\nfield n P\n": true, base + "class R\nfield a int\nfield b int\nfield a int\n": false, "class P\nfield a int\nfield a float\n": false,
		base + "global g int\n": false, base + "global h float\n": false, base + "global i int\n": true,
		base + "extern e 1\n": false, base + "extern e 2\n": false, base + "extern e1 1\n": true,
		base + "func f P\nblock b\nret 1\n": false, base + "func f int\nparam z int\nblock b\nret 1\n": false, base + "func g int\nblock b\nret 1\n": true,
		base + "func g int\nparam k int\nparam p Q\nvar x float\nvar q P\nblock b\nret 1\n": true,
		base + "func g int\nparam k int\nparam k int\nblock b\nret 1\n":                     false,
		base + "func g int\nvar k int\nvar l int\nvar k float\nblock b\nret 1\n":            false,
		base + "func g int\nparam k int\nvar l int\nvar k int\nblock b\nret 1\n":            false,
		base + "func g int\nparam k int\nvar k float\nblock b\nret 1\n":                     false,
		// One name of several kinds.
		"class x\nfield x x\nglobal x x\nextern x 1\nfunc x x\nvar x x\nblock x\nret x\n":                                               true,
		base + "class g\nclass e\nclass f\nclass k\nclass a\nclass b\n":                                                                 true,
		base + "global P int\nglobal e int\nglobal f int\nglobal k int\nglobal a int\nextern P 1\nextern g 1\nextern f 1\nextern k 1\n": true,
		base + "func P int\nparam P int\nvar g int\nvar e int\nvar P1 int\nvar f int\nblock k\nret 1\n":                                 true,
		// Types that aren't declared, in each place; and those that are, ahead or behind.
		"class P\nfield a Q\n": false, "class P\nfield a P\n": true, "class P\nfield a Q\nclass Q\n": true, "class P\nfield b int\nfield a p\n": false,
		"global g P\n": false, "global g P\nclass P\n": true, "global g g\n": false, "global g int\nglobal h P\n": false, "global g float\n": true,
		"func f P\nblock b\nret 1\n": false, "func f P\nblock b\nret 1\nclass P\n": true, "func f float\nblock b\nret 1\n": true, "func f f\nblock b\nret 1\n": false,
		"func f int\nparam p P\nblock b\nret 1\n": false, "func f int\nparam k int\nparam p P\nblock b\nret 1\nclass P\n": true,
		"func f int\nvar p P\nblock b\nret 1\n": false, "func f int\nvar k float\nvar p P\nblock b\nret 1\nclass P\n": true,
		base + "func g int\nparam k e\nblock b\nret 1\n": false, base + "func g int\nvar k g\nblock b\nret 1\n": false, base + "func g h\nblock b\nret 1\n": false,
		base + "class R\nfield z S\n": false, base + "global z a\n": false,
		// What blocks have isn't asked for.
		"func f int\nblock b\nphi y c z\nx = new R\ny = load z a\nout u\nguard\nat g c 1 z y\nobj S\njump c\nblock b\ntrap 1\n": true,
	} {
		if got := types.Heads(parsed(t, text)); got != want {
			t.Errorf("%v of\n%s", got, text)
		}
	}
	if !types.Heads(api.Program{}) || !types.Heads(api.Program{Classes: []api.Class{}, Globals: []api.Var{}, Externs: []api.Extern{}, Funcs: []api.Func{}}) {
		t.Error("of nothing: false")
	}
}

// Words that no text has as types or names there.
func TestHeadsOfOddWords(t *testing.T) {
	for _, kind := range []string{"", "null", "ref", "Int", "int ", "in", "P", "\x00"} {
		for at, p := range []api.Program{
			{Classes: []api.Class{{Name: "C", Fields: []api.Var{{Name: "a", Type: kind}}}}},
			{Globals: []api.Var{{Name: "g", Type: kind}}},
			{Funcs: []api.Func{{Name: "f", Result: kind}}},
			{Funcs: []api.Func{{Name: "f", Result: "int", Params: []api.Var{{Name: "a", Type: kind}}}}},
			{Funcs: []api.Func{{Name: "f", Result: "int", Vars: []api.Var{{Name: "a", Type: kind}}}}},
		} {
			if types.Heads(p) {
				t.Errorf("%d: the type %q is right", at, kind)
			}
		}
	}
}

// pairwise is another way of asking whether heads are right: each name against each one.
func pairwise(p api.Program) bool {
	var classes, globals, externs, funcs, kinds []string
	var lists [][]string
	declared := func(l []api.Var) []string {
		var names []string
		for _, v := range l {
			names = append(names, v.Name)
			kinds = append(kinds, v.Type)
		}
		return names
	}
	for _, c := range p.Classes {
		classes = append(classes, c.Name)
		lists = append(lists, declared(c.Fields))
	}
	globals = declared(p.Globals)
	for _, e := range p.Externs {
		externs = append(externs, e.Name)
	}
	for _, f := range p.Funcs {
		funcs = append(funcs, f.Name)
		kinds = append(kinds, f.Result)
		lists = append(lists, append(declared(f.Params), declared(f.Vars)...))
	}
	for _, l := range append(lists, classes, globals, externs, funcs) {
		for at := range l {
			if slices.Contains(l[:at], l[at]) {
				return false
			}
		}
	}
	return !slices.ContainsFunc(kinds, func(k string) bool { return !slices.Contains(append(classes, "int", "float"), k) })
}

// Heads as chance has them (always the same), of few names.
func TestHeadsAgainstPairs(t *testing.T) {
	chance := rand.New(rand.NewSource(7))
	name := func() string { return string(rune('a' + chance.Intn(12))) }
	some := func(below int, kinds []string) []api.Var {
		var l []api.Var
		for range chance.Intn(below) {
			l = append(l, api.Var{Name: name(), Type: kinds[chance.Intn(len(kinds))]})
		}
		return l
	}
	right := 0
	for range 40000 {
		var p api.Program
		kinds := []string{"int", "float"}
		for range chance.Intn(3) {
			p.Classes = append(p.Classes, api.Class{Name: name()})
			kinds = append(kinds, p.Classes[len(p.Classes)-1].Name)
		}
		if chance.Intn(8) == 0 {
			kinds = append(kinds, name())
		}
		for at := range p.Classes {
			p.Classes[at].Fields = some(3, kinds)
		}
		p.Globals = some(3, kinds)
		for range chance.Intn(3) {
			p.Externs = append(p.Externs, api.Extern{Name: name(), N: chance.Intn(3)})
		}
		for range chance.Intn(3) {
			p.Funcs = append(p.Funcs, api.Func{Name: name(), Result: kinds[chance.Intn(len(kinds))], Params: some(3, kinds), Vars: some(3, kinds)})
		}
		want := pairwise(p)
		if want {
			right++
		}
		if types.Heads(p) != want {
			t.Fatalf("isn't %v: %+v", want, p)
		}
	}
	if right < 5000 || right > 35000 {
		t.Error(right)
	}
}

// As many names as no text has: what is told is told soon.
func TestHeadsOfMany(t *testing.T) {
	l := make([]api.Var, 1<<18)
	for at := range l {
		l[at] = api.Var{Name: "v" + strconv.Itoa(at), Type: "C"}
	}
	p := api.Program{Classes: []api.Class{{Name: "C", Fields: l}}, Globals: l, Funcs: []api.Func{{Name: "f", Result: "C", Params: l[:1<<17], Vars: l[1<<17:]}}}
	if !types.Heads(p) {
		t.Error("isn't right")
	}
	p.Funcs[0].Vars = l[1<<17-1:]
	if types.Heads(p) {
		t.Error("a variable of the last parameter's name is right")
	}
}
