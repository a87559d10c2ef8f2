package check_test

import (
	"math"
	"math/rand"
	"reflect"
	"slices"
	"strings"
	"testing"

	"lateen/api"
	"lateen/check"
)

// What faults are of: a fault of what stands ahead here is told ahead; of functions' faults that of the function ahead.
const (
	ofForm = iota
	ofBounds
	ofHeads
	ofFunction
)

// fault is a program that has faults of one kind alone.
type fault struct {
	p    api.Program
	of   int
	want api.Errno
}

// faults answers faults of each kind.
func faults(t *testing.T) []fault {
	var l []fault
	lay := func(of int, want api.Errno, texts []string) {
		for _, text := range texts {
			l = append(l, fault{parsed(t, text), of, want})
		}
	}
	lay(ofForm, api.ErrSyntax, otherForm)
	for _, p := range unreadable(t) {
		l = append(l, fault{p, ofForm, api.ErrSyntax})
	}
	for _, f := range []api.Func{function(33, 0, 0, 0), function(1, 201, 0, 0), function(32, 201, 6, 10), function(1, 0, 0, 17), function(32, 200, 6, 11)} {
		l = append(l, fault{program(f), ofBounds, api.ErrLimit})
	}
	lay(ofHeads, api.ErrType, wrongHeads)
	lay(ofFunction, api.ErrShape, wrongShapes)
	lay(ofFunction, api.ErrType, wrongTypes())
	lay(ofFunction, api.ErrType, unsound)
	return l
}

// otherForm are programs that have one thing that only the other form has; the last one has all of them.
var otherForm = []string{
	"ssa",
	"ssa/func f int/block a/ret 1",
	"ssa/func f int/param k int/var x int/block a/x = mov k/ret x",
	"func f int/var x int/block a/phi x a 1/ret 1",
	"func f int/var x int/block a/jump b/block b/phi x a 1/ret 1",
	"func f int/param k int/var x int/block a/branch k b c/block b/jump d/block c/jump d/block d/phi x b 1 c k/ret x",
	"func f int/block a/guard/at f a 0/ret 1",
	"func f int/param k int/block a/out k/jump b/block b/guard/guard/at f a 0 k k/at f b 0/ret 1",
	"func f int/var x int/block a/x = call f/at f a 0/ret x",
	"func g int/block a/ret 1/func f int/block a/branch 1 b c/block b/ret 1/block c/guard/at f c 0/guard/ret 1",
	"class P/func f int/block a/guard/obj P/guard/ret 1",
	"class P/field a int/func f int/var x int/block a/x = call f/obj P 1/ret 1",
	"class P/func f int/block a/guard/at f a 0/obj P/ret 1",
	"ssa/class P/func f int/var x int/block a/jump b/block b/phi x a 1/guard/at f b 0/obj P/ret x",
}

// unreadable answers programs that no text has, for one thing each.
func unreadable(t *testing.T) []api.Program {
	var l []api.Program
	change := func(do func(p *api.Program)) {
		p := parsed(t, sample)
		do(&p)
		l = append(l, p)
	}
	for _, s := range []string{"", "1x", "null", "a b", "int", "abcdefghijklmnopq", "é", "a\nret 1"} {
		change(func(p *api.Program) { p.Classes = append(p.Classes, api.Class{Name: s}) })
		change(func(p *api.Program) { p.Globals = append(p.Globals, api.Var{Name: s, Type: "int"}) })
		change(func(p *api.Program) { p.Externs = append(p.Externs, api.Extern{Name: s}) })
		change(func(p *api.Program) { p.Funcs[2].Name = s })
		change(func(p *api.Program) { p.Funcs[1].Vars = append(p.Funcs[1].Vars, api.Var{Name: s, Type: "int"}) })
		change(func(p *api.Program) { p.Funcs[1].Blocks[0].Name = s })
	}
	for _, a := range []api.Arg{{}, {Kind: api.KObj}, {Kind: 6}, {Kind: -1}, {Kind: api.KVar}, {Kind: api.KVar, S: "z", N: 1}, {Kind: api.KInt, S: "z"}, {Kind: api.KFloat, N: math.MaxInt64}, {Kind: api.KNull, N: 1}} {
		change(func(p *api.Program) { p.Funcs[0].Blocks[0].Code[3].Args[1] = a })
		change(func(p *api.Program) { p.Funcs[1].Blocks[0].End.A = a })
	}
	for _, n := range []int{0, -1, 35, math.MinInt, math.MaxInt} {
		change(func(p *api.Program) { p.Funcs[0].Blocks[4].End.Kind = n })
		change(func(p *api.Program) { p.Funcs[0].Blocks[1].Code[0].Op = n })
	}
	change(func(p *api.Program) { p.Externs[1].N = 9 })
	change(func(p *api.Program) { p.Funcs[1].Blocks = nil })
	change(func(p *api.Program) { p.Funcs[0].Blocks[1].Code[0].Dst = "z" })
	change(func(p *api.Program) { p.Funcs[0].Blocks[1].Code[0].Name = "z" })
	change(func(p *api.Program) { p.Funcs[0].Blocks[4].End.To = []string{"b1"} })
	change(func(p *api.Program) { p.Funcs[0].Blocks[1].End.N = 1 })
	change(func(p *api.Program) { p.Funcs[0].Blocks[0].Code[0].Frames = []api.Frame{{Func: "f", Block: "b0"}} })
	// More of something than a text may have.
	for _, f := range []api.Func{function(257, 0, 0, 0), function(1, 1025, 0, 0), function(1, 0, 7, 0), function(1, 0, 0, 1025)} {
		l = append(l, program(f))
	}
	return l
}

// wrongHeads are programs whose heads have one fault.
var wrongHeads = []string{
	"class P/class P", "class P/field a int/field a P", "global g int/global g float", "extern e 0/extern e 1",
	"func f int/block a/ret 1/func f int/block a/ret 1",
	"func f int/param k int/param k int/block a/ret 1",
	"func f int/var k int/var k int/block a/ret 1",
	"func f int/param k int/var k int/block a/ret 1",
	"class P/field a Q", "global g P", "func f P/block a/ret null", "func f int/param k P/block a/ret 1", "func f int/var k P/block a/ret 1",
}

// wrongShapes are programs in which blocks don't hang together as they must.
var wrongShapes = []string{
	"func f int/block a/jump a", "func f int/block a/jump b", "func f int/block a/jump b/block b/jump a",
	"func f int/block a/branch 1 b b/block b/ret 1", "func f int/block a/branch 1 b c/block b/ret 1", "func f int/block a/branch 1 a b/block b/ret 1",
	"func f int/block a/ret 1/block b/ret 1", "func f int/block a/ret 1/block b/jump b", "func f int/block a/ret 1/block b/jump c/block c/jump b",
	"func f int/block a/jump b/block b/ret 1/block b/ret 1", "func f int/block a/ret 1/block a/ret 1",
}

// wrongTypes answers programs in which one instruction or one end hasn't its types, in the first block or another one.
func wrongTypes() []string {
	const head = "class P/field a int/field b P/class Q/global g int/extern e 1/func f int/param k int/param y float/param o P/var x int/block a/x = mov 1/"
	var l []string
	for _, i := range []string{
		"z = mov 1", "x = mov y", "x = mov null", "o = mov k", "x = add 1 null", "x = add y 1", "x = sub z 1", "y = mul 1 1", "x = fadd y y", "y = fdiv y 1", "y = flt y y", "x = feq 1 1", "y = itof y", "x = itof 1", "y = ftoi y", "x = ftoi 1",
		"o = new Q", "o = new R", "x = new P", "o = new P 1", "o = new P null null", "o = new P 1 null 1", "z = new P",
		"x = load o c", "y = load o a", "x = load k a", "x = load null a", "store o a null", "store o c 1", "store k a 1", "store z a 1", "x = same 1 1", "x = same o y", "y = same o o",
		"x = gload q", "y = gload g", "gstore q 1", "gstore g null", "gstore g y", "x = call q", "x = call f", "x = call f 1 y null o", "x = call f y y o", "y = call f 1 y o", "z = call f 1 y o",
		"x = ext q", "x = ext e", "x = ext e null", "x = ext e 1 1", "y = ext e 1", "out null", "out o", "out z",
	} {
		l = append(l, head+i+"/ret 1", head+"guard/"+i+"/out x/jump b/block b/ret x", head+"branch k b c/block b/ret k/block c/out k/"+i+"/ret x")
	}
	for _, end := range []string{
		"ret null", "ret y", "ret o", "ret z", "trap 9", "trap 2", "trap 0", "trap -10",
		"branch y d e/block d/ret 1/block e/ret 1", "branch null d e/block d/ret 1/block e/ret 1", "branch z d e/block d/ret 1/block e/ret 1",
	} {
		l = append(l, head+end, head+"branch k b c/block b/"+end+"/block c/ret x", head+"jump b/block b/jump c/block c/"+end)
	}
	return l
}

// unsound are programs in which a variable is used where it isn't set, or not on each way.
var unsound = []string{
	"func f int/var x int/block a/ret x", "func f int/var x int/block a/x = mov x/ret x", "func f int/var x int/block a/out x/x = mov 1/ret x",
	"func f int/var x int/block a/branch x b c/block b/ret 1/block c/ret 1",
	"func f int/param k int/var x int/block a/branch k b c/block b/x = mov 1/jump c/block c/ret x",
	"func f int/param k int/var x int/block a/branch k c b/block b/x = mov 1/jump c/block c/out x/ret 1",
	"func f int/param k int/var x int/block a/branch k b c/block b/x = mov 1/jump d/block c/jump d/block d/branch x e g/block e/ret 1/block g/ret 1",
	"func f int/param k int/var x int/block a/jump b/block b/branch k c d/block c/x = mov 1/jump b/block d/ret x",
	"func f int/var x int/block a/jump b/block b/out x/x = mov 1/jump b",
	"class P/field a int/func f int/var o P/block a/store o a 1/ret 1",
	"func f int/param k int/var x int/block a/x = call f x/ret x",
}

// joined answers a program that has what p has, and behind that what q has.
func joined(p, q api.Program) api.Program {
	return api.Program{
		SSA:     p.SSA || q.SSA,
		Classes: slices.Concat(p.Classes, q.Classes),
		Globals: slices.Concat(p.Globals, q.Globals),
		Externs: slices.Concat(p.Externs, q.Externs),
		Funcs:   slices.Concat(p.Funcs, q.Funcs),
	}
}

// renamed answers p with other names.
func renamed(p api.Program) api.Program {
	own := copied(p, false)
	each(reflect.ValueOf(&own).Elem(), func(v reflect.Value) {
		if v.Kind() == reflect.String && v.Len() > 0 && v.String() != "int" && v.String() != "float" {
			v.SetString(v.String() + "_")
		}
	})
	return own
}

// ahead answers the error that is told of what p has, and q behind it.
func ahead(p, q fault) api.Errno {
	if q.of < p.of {
		return q.want
	}
	return p.want
}

// Each fault alone, and in a program that has much else, ahead of it or behind it.
func TestEachFault(t *testing.T) {
	t.Parallel()
	right := parsed(t, sample)
	other := renamed(right)
	is(t, joined(right, other), api.OK)
	for _, f := range faults(t) {
		is(t, f.p, f.want)
		is(t, joined(f.p, other), f.want)
		is(t, joined(other, f.p), f.want)
	}
}

// Two faults at once, in whichever order.
func TestTwoFaults(t *testing.T) {
	t.Parallel()
	l := faults(t)
	for _, p := range l {
		for _, q := range l {
			if p.of == ofForm && q.of == ofForm {
				continue
			}
			both := joined(p.p, renamed(q.p))
			if q.of == ofForm {
				both = joined(renamed(p.p), q.p)
			}
			if got := check.Source(both); got != ahead(p, q) {
				t.Fatalf("%d, not %d, of\n%+v", got, ahead(p, q), both)
			}
		}
	}
}

// Several faults at once, as chance has them (always the same).
func TestSeveralFaults(t *testing.T) {
	t.Parallel()
	chance := rand.New(rand.NewSource(14))
	l := faults(t)[len(otherForm)+len(unreadable(t)):]
	for range 3000 {
		all := l[chance.Intn(len(l))]
		for range 1 + chance.Intn(3) {
			f := l[chance.Intn(len(l))]
			// What is told hangs on nothing that stands behind it.
			all = fault{joined(renamed(all.p), f.p), min(all.of, f.of), ahead(all, f)}
		}
		if len(all.p.Funcs) <= api.MaxFuncs {
			is(t, all.p, all.want)
		}
	}
}

// Several faults of one function, or of what it needs.
func TestFaultsOfOneFunction(t *testing.T) {
	long := strings.Repeat("guard/", 201)
	for text, want := range map[string]api.Errno{
		// A shape that isn't right, and types that aren't, wherever they are.
		"func f int/block a/x = mov 1/jump a":                                                        api.ErrShape,
		"func f int/block a/jump b/block b/trap 9/block c/ret 1":                                     api.ErrShape,
		"func f int/block a/ret 1/block b/ret null":                                                  api.ErrShape,
		"func f int/block a/ret x/block a/ret x":                                                     api.ErrShape,
		"func f int/var x int/block a/out x/jump b":                                                  api.ErrShape,
		"func f int/block a/branch null b b/block b/ret 1":                                           api.ErrShape,
		"func f int/block a/ret null/func g int/block a/jump a":                                      api.ErrType,
		"func g int/block a/jump a/func f int/block a/ret null":                                      api.ErrShape,
		"func f int/var x int/block a/ret x/func g int/block a/jump a":                               api.ErrType,
		"func f int/block a/ret 1/func g int/block a/trap 9/func h int/block a/ret 1/block b/jump b": api.ErrType,
		// Heads of whatever stands behind.
		"func f int/var x int/var x int/block a/jump a":                  api.ErrType,
		"func f P/block a/jump a":                                        api.ErrType,
		"func f int/block a/jump a/class P/class P":                      api.ErrType,
		"func f int/block a/jump a/global g P":                           api.ErrType,
		"func f int/block a/jump a/func g int/var x P/block a/ret 1":     api.ErrType,
		"func f int/block a/jump a/func f int/block a/ret 1":             api.ErrType,
		"func f int/param k int/block a/jump a/func g int/block a/ret k": api.ErrShape,
		// Bounds.
		"func f int/block a/" + long + "jump a":                                             api.ErrLimit,
		"func f P/block a/" + long + "ret x":                                                api.ErrLimit,
		"class P/class P/func g int/block a/jump a/func f int/block a/" + long + "ret 1":    api.ErrLimit,
		"func f int" + strings.Repeat("/var x int", 17) + "/block a/jump a":                 api.ErrLimit,
		"func f int" + strings.Repeat("/var x P", 17) + "/block a/jump a":                   api.ErrLimit,
		"func f int/param x int" + strings.Repeat("/var x int", 16) + "/block a/ret null":   api.ErrLimit,
		"func f int" + strings.Repeat("/block a/jump a", 33):                                api.ErrLimit,
		"func f int" + strings.Repeat("/block a/jump a", 32):                                api.ErrShape,
		"func f int" + strings.Repeat("/block a/x = mov 1/jump a", 32) + "/class P/class P": api.ErrType,
		// What only the other form has.
		"ssa/func f int/block a/" + long + "jump a":                                              api.ErrSyntax,
		"ssa/class P/class P":                                                                    api.ErrSyntax,
		"func f P/block a/phi x a 1/jump a":                                                      api.ErrSyntax,
		"func f int/block a/" + long + "at f a 0/jump a":                                         api.ErrSyntax,
		"func f int/block a/" + long + "obj P/jump a":                                            api.ErrSyntax,
		"func f int/block a/jump a/func f int" + strings.Repeat("/block a/phi x a 1/jump a", 33): api.ErrSyntax,
	} {
		is(t, parsed(t, text), want)
	}
}
