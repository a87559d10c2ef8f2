package machine_test

import (
	"maps"
	"math"
	"slices"
	"strconv"
	"strings"
	"testing"

	"lateen/api"
	"lateen/assign"
	"lateen/check"
	"lateen/machine"
	"lateen/shape"
	"lateen/syntax"
	"lateen/types"
)

// parsed reads a program whose lines are parted by strokes.
func parsed(t *testing.T, text string) api.Program {
	t.Helper()
	p, line, e := syntax.Parse(strings.ReplaceAll(text, "/", "\n"))
	if e != api.OK {
		t.Fatalf("it isn't read: line %d, error %d, of %s", line, e, text)
	}
	if !p.SSA && check.Source(p) != api.OK {
		t.Fatalf("no source: error %d, of %s", check.Source(p), text)
	}
	if p.SSA && !otherForm(p) {
		t.Fatalf("not in the other form: %s", text)
	}
	return p
}

// otherForm tells whether p, which was read, is in the other form, but for what states tell.
func otherForm(p api.Program) bool {
	for _, f := range p.Funcs {
		if !shape.Right(f) || !shape.Phis(f) || !assign.Right(f) || !setOnce(f) {
			return false
		}
		for _, b := range f.Blocks {
			if !types.End(f, b.End) || slices.ContainsFunc(b.Code, func(i api.Instr) bool { return !types.Instr(p, f, i) }) {
				return false
			}
			for _, phi := range b.Phis {
				for _, in := range phi.Ins {
					// What a phi is from a block must be what a Mov may be given.
					if !types.Instr(p, f, api.Instr{Op: api.Mov, Dst: phi.Dst, Args: []api.Arg{in.A}}) {
						return false
					}
				}
			}
		}
	}
	return types.Heads(p)
}

// setOnce tells whether each variable of f is set by just one phi or instruction, and no parameter is.
func setOnce(f api.Func) bool {
	set := map[string]int{}
	for _, b := range f.Blocks {
		for _, phi := range b.Phis {
			set[phi.Dst]++
		}
		for _, i := range b.Code {
			set[i.Dst]++
		}
	}
	return !slices.ContainsFunc(f.Params, func(v api.Var) bool { return set[v.Name] != 0 }) &&
		!slices.ContainsFunc(f.Vars, func(v api.Var) bool { return set[v.Name] != 1 })
}

// start begins the function f of p.
func start(t *testing.T, p api.Program, args ...int64) api.State {
	t.Helper()
	s, e := machine.Start(p, "f", args)
	if e != api.OK {
		t.Fatalf("it isn't started: error %d", e)
	}
	return s
}

// enough is more fuel than any run needs that ends.
const enough = 5000

// ran runs the function f of the program that is written there, with no answers and no guard that fails.
func ran(t *testing.T, text string, args ...int64) api.State {
	t.Helper()
	p := parsed(t, text)
	return machine.Run(p, start(t, p, args...), enough, nil, nil)
}

// hold tells a fault, if s isn't what is wanted, in the words of told.
func hold(t *testing.T, what string, s api.State, want string) {
	t.Helper()
	if got := told(s); got != want {
		t.Errorf("%.500s:\n%.2000s\nnot\n%.2000s", what, got, want)
	}
}

// told tells all of a state in words, but for what is zero.
func told(s api.State) string {
	w := []string{[]string{"runs", "ended", "trapped", "spent", "failed", "?"}[status(s)]}
	if s.Status == api.Ended || s.Result != (api.Val{}) {
		w = append(w, value(s.Result))
	}
	if s.Status == api.Trapped || s.Code != 0 {
		w = append(w, number(s.Code))
	}
	for _, l := range s.Frames {
		w = append(w, "at "+l.Func+" "+l.Block+" "+strconv.Itoa(l.At))
		for _, name := range slices.Sorted(maps.Keys(l.Vars)) {
			w = append(w, name+"="+value(l.Vars[name]))
		}
	}
	for _, o := range s.Heap {
		w = append(w, "obj "+o.Class+"("+values(o.Vals)+")")
	}
	if len(s.Globals) > 0 {
		w = append(w, "globals "+values(s.Globals))
	}
	for _, e := range s.Trace {
		w = append(w, event(e))
	}
	if len(s.Marks) > 0 {
		w = append(w, "marks "+numbers(s.Marks))
	}
	for at, n := range []int64{s.Allocs, s.Steps, s.Guards, s.Asked} {
		if n != 0 {
			w = append(w, []string{"allocs ", "steps ", "guards ", "asked "}[at]+number(n))
		}
	}
	return strings.Join(w, " ")
}

// status answers that of s, and 5 for all that is none.
func status(s api.State) int {
	if s.Status < api.Runs || s.Status > api.Failed {
		return 5
	}
	return s.Status
}

func number(n int64) string { return strconv.FormatInt(n, 10) }

func numbers(l []int64) string {
	var w []string
	for _, n := range l {
		w = append(w, number(n))
	}
	return strings.Join(w, " ")
}

// value tells a value: 7 is an int, f and sixteen digits a float, @7 a ref, and what has another type is told with that.
func value(v api.Val) string {
	switch v.Type {
	case "int":
		return number(v.N)
	case "float":
		digits := strconv.FormatUint(uint64(v.N), 16)
		return "f" + strings.Repeat("0", 16-len(digits)) + digits
	case "ref":
		return "@" + number(v.N)
	}
	return strconv.Quote(v.Type) + ":" + number(v.N)
}

func values(l []api.Val) string {
	var w []string
	for _, v := range l {
		w = append(w, value(v))
	}
	return strings.Join(w, " ")
}

// event tells an event: of an Ext its name, arguments and answer, of an Out its value.
func event(e api.Event) string {
	kind := "int"
	if e.Float {
		kind = "float"
	}
	var vals []api.Val
	for _, n := range e.Args {
		vals = append(vals, api.Val{Type: kind, N: n})
	}
	text := e.Name + "(" + values(vals) + ")"
	if e.Name != "" || e.Res != 0 {
		text += number(e.Res)
	}
	return text
}

// Bits of floats.
const (
	nan      = 0x7ff8000000000000
	infinite = 0x7ff0000000000000
	nought   = math.MinInt64 // -0
	one      = 0x3ff0000000000000
	two      = 0x4000000000000000
)

// nans are all told as NaN.
var nans = []int64{nan, nan + 1, infinite + 1, math.MaxInt64, -1, math.MinInt64 | nan, math.MinInt64 | infinite + 1, infinite | 1<<51, infinite | 1<<50, infinite | 1<<32}

// plains are floats that are no NaN.
var plains = []int64{0, nought, one, two, math.MinInt64 | one, infinite, math.MinInt64 | infinite, 1, math.MinInt64 | 1, 1<<52 - 1, 1 << 52, infinite - 1, math.MinInt64 | infinite - 1, 0x3fe0000000000000, 0x4008000000000000, 0x43e0000000000000, math.MinInt64 | 0x43e0000000000000, 0x3fb999999999999a}

// wholes are whole numbers at all edges.
var wholes = []int64{0, 1, -1, 2, -2, 3, 7, -7, 10, 63, 64, 65, -63, -64, -65, 1 << 31, -1 << 31, 1<<32 + 1, 1 << 53, 1<<53 + 1, 1 << 62, -1 << 62, math.MaxInt64, math.MaxInt64 - 1, math.MinInt64, math.MinInt64 + 1}

func TestDocumentsExample(t *testing.T) {
	p := parsed(t, "func f int/param k int/block a/out k/ret k")
	s := start(t, p, 5)
	hold(t, "started", s, "runs at f a 0 k=5")
	hold(t, "run", machine.Run(p, s, 100, nil, nil), "ended 5 (5) marks 0 steps 2")
	hold(t, "run with fuel 1", machine.Run(p, s, 1, nil, nil), "spent at f a 1 k=5 (5) marks 0 steps 1")
}

func TestStart(t *testing.T) {
	const head = "class P/field a int/func g float/param z P/block z/ret 0f0000000000000000/func f int/param k int/param u float/param o P/param i int/param j int/param v float/var x int/var q P/block s/jump b/block b/ret k"
	for _, c := range []struct {
		args []int64
		want string
	}{
		{nil, "i=0 j=0 k=0 o=@0 u=f0000000000000000 v=f0000000000000000"},
		{[]int64{}, "i=0 j=0 k=0 o=@0 u=f0000000000000000 v=f0000000000000000"},
		{[]int64{7}, "i=0 j=0 k=7 o=@0 u=f0000000000000000 v=f0000000000000000"},
		{[]int64{7, one}, "i=0 j=0 k=7 o=@0 u=f3ff0000000000000 v=f0000000000000000"},
		{[]int64{7, one, 1}, "i=0 j=0 k=7 o=@0 u=f3ff0000000000000 v=f0000000000000000"},
		{[]int64{math.MinInt64, nought, -1, math.MaxInt64}, "i=9223372036854775807 j=0 k=-9223372036854775808 o=@0 u=f8000000000000000 v=f0000000000000000"},
		{[]int64{1, 2, 3, 4, 5, 6}, "i=4 j=5 k=1 o=@0 u=f0000000000000002 v=f0000000000000006"},
		{[]int64{1, 2, 3, 4, 5, 6, 7, 8, 9}, "i=4 j=5 k=1 o=@0 u=f0000000000000002 v=f0000000000000006"},
		{[]int64{nan + 1, nan + 1, nan + 1, nan + 1, -1, -1}, "i=9221120237041090561 j=-1 k=9221120237041090561 o=@0 u=f7ff8000000000000 v=f7ff8000000000000"},
	} {
		hold(t, numbers(c.args), start(t, parsed(t, head), c.args...), "runs at f s 0 "+c.want)
	}
}

// A float that is handed in is as flo.Plain tells it, and a whole number stays what it is, whatever its bits.
func TestStartNumbers(t *testing.T) {
	p := parsed(t, "func f float/param u float/param k int/block a/ret u")
	for _, n := range slices.Concat(nans, plains, wholes) {
		want := value(api.Val{Type: "float", N: n})
		if math.IsNaN(math.Float64frombits(uint64(n))) {
			want = "f7ff8000000000000"
		}
		s := start(t, p, n, n)
		hold(t, number(n), s, "runs at f a 0 k="+number(n)+" u="+want)
		hold(t, number(n), machine.Run(p, s, 1, nil, nil), "ended "+want+" steps 1")
	}
}

func TestStartGlobals(t *testing.T) {
	const text = "global g int/class P/global h P/global u float/func f int/block a/ret 1/global k int/class Q/field h Q/global q Q"
	p := parsed(t, text)
	hold(t, text, start(t, p), "runs at f a 0 globals 0 @0 f0000000000000000 0 @0")
	hold(t, text, start(t, p, 5, 6), "runs at f a 0 globals 0 @0 f0000000000000000 0 @0")
	hold(t, text, ran(t, text), "ended 1 globals 0 @0 f0000000000000000 0 @0 steps 1")
}

// What is to be zero is so, and variables that aren't parameters are none.
func TestStartIsElseZero(t *testing.T) {
	p := parsed(t, "global g int/func f int/param k int/var x int/block a/x = mov k/ret x")
	s := start(t, p, 5)
	if s.Status != api.Runs || s.Result != (api.Val{}) || s.Code != 0 || len(s.Frames) != 1 || len(s.Frames[0].Vars) != 1 || len(s.Heap) != 0 || len(s.Globals) != 1 || len(s.Trace) != 0 || len(s.Marks) != 0 || s.Allocs != 0 || s.Steps != 0 || s.Guards != 0 || s.Asked != 0 {
		t.Errorf("%+v", s)
	}
	if _, ok := s.Frames[0].Vars["x"]; ok {
		t.Error("x is there ahead of what sets it")
	}
}

// Each function of a program can be begun; a name that no function has is told, and nothing else is.
func TestStartNames(t *testing.T) {
	p := parsed(t, "class c/field i int/global g int/extern e 0/func f int/param k int/block a/ret k/func h float/param u float/block b/jump c/block c/ret u/func _9 c/block a/ret null")
	for name, want := range map[string]string{
		"f":  "runs at f a 0 k=1 globals 0",
		"h":  "runs at h b 0 u=f0000000000000001 globals 0",
		"_9": "runs at _9 a 0 globals 0",
	} {
		s, e := machine.Start(p, name, []int64{1, 2})
		if e != api.OK {
			t.Errorf("%s: error %d", name, e)
		}
		hold(t, name, s, want)
	}
	for _, name := range []string{"", " ", "F", "ff", "f ", " f", "c", "g", "e", "a", "k", "i", "u", "int", "null", "_", "_99", "f\x00", "\xff", strings.Repeat("f", 1<<12)} {
		for _, p := range []api.Program{p, {}, {Globals: p.Globals}} {
			s, e := machine.Start(p, name, []int64{1, 2})
			if e != api.ErrNone || told(s) != "runs" || s.Frames != nil || s.Globals != nil {
				t.Errorf("%.20q: error %d, %v", name, e, s)
			}
		}
	}
	if s, e := machine.Start(api.Program{}, "f", nil); e != api.ErrNone || told(s) != "runs" {
		t.Error(s, e)
	}
}

// A state that Failed goes on behind the guard, whatever frame is on top; any other one is as it is.
func TestPass(t *testing.T) {
	p := parsed(t, "func f int/var x int/block a/guard/x = call g/ret x/func g int/block a/guard/guard/ret 3")
	s := start(t, p)
	for n, want := range []string{
		"failed at f a 0 steps 1 guards 1|runs at f a 1 steps 1 guards 1",
		"failed at f a 1 at g a 0 steps 3 guards 2|runs at f a 1 at g a 1 steps 3 guards 2",
		"failed at f a 1 at g a 1 steps 4 guards 3|runs at f a 1 at g a 2 steps 4 guards 3",
	} {
		failed := machine.Run(p, s, enough, nil, []int64{int64(n)})
		at, behind, _ := strings.Cut(want, "|")
		hold(t, "failed", failed, at)
		passed := machine.Pass(failed)
		hold(t, "passed", passed, behind)
		hold(t, "passed twice", machine.Pass(passed), behind)
		hold(t, "gone on", machine.Run(p, passed, enough, nil, []int64{int64(n)}), "ended 3 steps 6 guards 3")
	}
}

func TestPassOfOthers(t *testing.T) {
	for text, args := range map[string][]int64{
		"class P/global g int/func f int/param k int/var p P/var x int/block a/p = new P/out 1/guard/x = div 5 k/x = call h p/ret x/func h int/param p P/block a/out 2/trap 11": {0, 1},
	} {
		p := parsed(t, text)
		for _, k := range args {
			s := start(t, p, k)
			for fuel := range int64(8) {
				l := machine.Run(p, s, fuel, nil, nil)
				hold(t, text, machine.Pass(l), told(l))
			}
			hold(t, text, machine.Pass(s), told(s))
		}
	}
	s := api.State{Code: 3, Result: api.Val{Type: "int", N: 2}, Frames: []api.Live{{Func: "f", Block: "a", At: 4}, {Func: "f", Block: "b", At: 2}}}
	for _, s.Status = range []int{api.Runs, api.Ended, api.Trapped, api.Spent, 5, 6, -1, math.MaxInt, math.MinInt} {
		if l := machine.Pass(s); told(l) != told(s) || l.Status != s.Status {
			t.Error(s.Status, l)
		}
	}
	s.Status = api.Failed
	hold(t, "failed", machine.Pass(s), "runs 2 3 at f a 4 at f b 3")
}
