package live_test

import (
	"math"
	"math/rand"
	"reflect"
	"slices"
	"strings"
	"testing"

	"lateen/api"
	"lateen/live"
	"lateen/syntax"
)

// parsed answers the function whose lines body has, parted by /.
func parsed(t *testing.T, body string) api.Func {
	t.Helper()
	p, at, e := syntax.Parse("func f int\n" + strings.ReplaceAll(body, "/", "\n") + "\n")
	if e != api.OK {
		t.Fatalf("line %d: %d in %s", at, e, body)
	}
	return p.Funcs[0]
}

// variable answers the variable of that name.
func variable(name string) api.Arg {
	return api.Arg{Kind: api.KVar, S: name}
}

// others are arguments that are no variables, whatever is in them.
var others = []api.Arg{
	{}, {S: "a"}, {Kind: api.KInt, N: 7}, {Kind: api.KInt, S: "b"}, {Kind: api.KFloat, S: "c", N: -1}, {Kind: api.KNull, S: "d"}, {Kind: api.KNull},
	{Kind: api.KObj, S: "e", N: 3}, {Kind: 6, S: "a"}, {Kind: -1, S: "b", N: 1}, {Kind: math.MaxInt, S: "c"}, {Kind: math.MinInt, S: "d"},
}

// words answers the words of s; a name that is written - is empty.
func words(s string) []string {
	l := strings.Fields(s)
	for at := range l {
		if l[at] == "-" {
			l[at] = ""
		}
	}
	return l
}

// once answers the texts of l, each once, rising.
func once(l []string) []string {
	l = slices.Clone(l)
	slices.Sort(l)
	return slices.Compact(l)
}

// askedUses is another way of asking for Uses: wherever in i an argument stands, it counts.
func askedUses(i api.Instr) []string {
	var names []string
	var look func(v reflect.Value)
	look = func(v reflect.Value) {
		if a, ok := v.Interface().(api.Arg); ok {
			if a.Kind == 1 {
				names = append(names, a.S)
			}
			return
		}
		switch v.Kind() {
		case reflect.Slice:
			for at := range v.Len() {
				look(v.Index(at))
			}
		case reflect.Struct:
			for at := range v.NumField() {
				look(v.Field(at))
			}
		}
	}
	look(reflect.ValueOf(i))
	return once(names)
}

func TestUses(t *testing.T) {
	for line, want := range map[string]string{
		"x = add y z": "y z", "x = add z y": "y z", "x = add y y": "y", "x = add y 1": "y", "x = add 1 y": "y", "x = add 1 2": "",
		// What is set isn't used by that, but may be used, too.
		"x = add x y": "x y", "x = sub x x": "x", "x = mov x": "x", "x = mov y": "y", "x = mov 1": "",
		"x = fadd y 0f3ff0000000000000": "y", "x = flt z y": "y z", "x = itof n": "n", "x = ftoi n": "n", "x = mov null": "", "x = mov 0f7ff8000000000000": "",
		// Names that stand behind words aren't variables.
		"x = new P": "", "x = new P y": "y", "x = new y z": "z", "x = new P c b a c b a 1 null": "a b c", "x = load y z": "y", "x = load null y": "", "store x y z": "x z", "store x y x": "x", "store x y 1": "x", "store null y z": "z",
		"x = same y z": "y z", "x = same y null": "y", "x = gload y": "", "gstore y z": "z", "gstore y 1": "", "x = call y z": "z", "x = call f": "", "x = ext y b a b": "a b", "x = ext e": "", "out x": "x", "out 1": "", "guard": "",
		// Rising, byte by byte.
		"x = new P b a B A b1 b11 a_ a1": "A B a a1 a_ b b1 b11", "x = ext e v10 v9 v1 v2": "v1 v10 v2 v9",
		// Frames and objects: what their variables and fields are, not what they are named.
		"guard/at y b 1":               "",
		"guard/at f b 1 y z":           "z",
		"guard/at f b 1 y y":           "y",
		"guard/at f b 1 y 1 z null":    "",
		"guard/at f b 1 y #0 z #1":     "",
		"guard/at f b 1 d c b a c b":   "a b c",
		"guard/at f b 1 x z/at g c 2":  "z",
		"guard/at f b 1/at g c 2 x z":  "z",
		"guard/obj z":                  "",
		"guard/obj P z":                "z",
		"guard/obj P z/obj Q y z":      "y z",
		"guard/obj P/obj Q/obj R y":    "y",
		"guard/obj P #0 1 null b a #9": "a b",
		"guard/at f b 1 q c r #0 s 1/at g b 2 t b/at h d 0 u c/obj P d #1/obj Q/obj R a 0f0000000000000000 c": "a b c d",
		"x = call f x y/at f b 1 z y x w/obj P v x u":                                                         "u v w x y",
		"x = call f/at f b 1 x x":         "x",
		"x = call f 1 2/at f b 1/obj P y": "y",
	} {
		f := parsed(t, "block b/"+line+"/ret 1")
		got := live.Uses(f.Blocks[0].Code[0])
		if !slices.Equal(got, words(want)) {
			t.Errorf("%s uses %q", line, got)
		}
		if !slices.Equal(got, askedUses(f.Blocks[0].Code[0])) {
			t.Errorf("%s isn't asked so", line)
		}
	}
}

// Each instruction, and numbers that are none, with whatever stands in it.
func TestUsesOfAnyInstruction(t *testing.T) {
	ops := []int{-1, 35, 99, math.MaxInt, math.MinInt}
	for op := range 35 {
		ops = append(ops, op)
	}
	for _, op := range ops {
		for _, name := range []string{"", "a", "x"} {
			i := api.Instr{Op: op, Dst: name, Name: name}
			if got := live.Uses(i); len(got) > 0 {
				t.Errorf("%+v uses %q", i, got)
			}
			i.Args = []api.Arg{variable("y"), {Kind: api.KInt, N: 1}, variable("x"), variable("y")}
			if got := live.Uses(i); !slices.Equal(got, []string{"x", "y"}) {
				t.Errorf("%+v uses %q", i, got)
			}
			i.Frames = []api.Frame{{Func: "p", Block: "q", At: -1}, {Func: "r", Vars: []api.Bind{{Name: "s", A: variable("c")}, {Name: "t"}, {A: variable("b")}}}}
			if got := live.Uses(i); !slices.Equal(got, []string{"b", "c", "x", "y"}) {
				t.Errorf("%+v uses %q", i, got)
			}
			i.Objs = []api.Virt{{Class: "u"}, {Class: "v", Vals: []api.Arg{variable("z"), {}, variable("a"), variable("b")}}}
			if got := live.Uses(i); !slices.Equal(got, []string{"a", "b", "c", "x", "y", "z"}) {
				t.Errorf("%+v uses %q", i, got)
			}
			i.Args, i.Frames = nil, nil
			if got := live.Uses(i); !slices.Equal(got, []string{"a", "b", "z"}) {
				t.Errorf("%+v uses %q", i, got)
			}
		}
	}
}

// What isn't a variable isn't used, wherever it stands; a variable is, whatever its N and its name.
func TestUsesOfArguments(t *testing.T) {
	odd := []string{"", " ", "a b", "null", "#0", "1", "\x00", "\xff", "é", strings.Repeat("a", 1<<16)}
	for _, a := range others {
		for _, i := range places(a) {
			if got := live.Uses(i); len(got) > 0 {
				t.Errorf("%+v uses %q", i, got)
			}
		}
	}
	for _, name := range odd {
		for _, n := range []int64{0, 1, -1, math.MaxInt64} {
			for _, i := range places(api.Arg{Kind: api.KVar, S: name, N: n}) {
				if got := live.Uses(i); !slices.Equal(got, []string{name}) {
					t.Errorf("%+v uses %q", i, got)
				}
			}
		}
	}
	i := api.Instr{Op: api.Guard}
	for _, name := range odd {
		i.Args = append(i.Args, variable(name))
	}
	if got := live.Uses(i); !slices.Equal(got, once(odd)) {
		t.Errorf("%q are used", got)
	}
}

// places answers instructions in each of which a stands once, or twice.
func places(a api.Arg) []api.Instr {
	return []api.Instr{
		{Op: api.Mov, Dst: "x", Args: []api.Arg{a}},
		{Op: api.Add, Args: []api.Arg{a, a}},
		{Op: api.Guard, Frames: []api.Frame{{Vars: []api.Bind{{Name: "v", A: a}}}}},
		{Op: api.Guard, Objs: []api.Virt{{Class: "P", Vals: []api.Arg{a}}}},
		{Op: api.Call, Args: []api.Arg{{}}, Frames: []api.Frame{{}, {Vars: []api.Bind{{Name: "v"}, {Name: "w", A: a}}}}, Objs: []api.Virt{{}, {Vals: []api.Arg{{}, a}}}},
	}
}

// anyArg answers an argument as chance has it, most often one of these variables.
func anyArg(chance *rand.Rand, names string) api.Arg {
	if chance.Intn(3) == 0 {
		return others[chance.Intn(len(others))]
	}
	at := chance.Intn(len(names))
	return variable(names[at : at+1])
}

// anyArgs answers up to most of them.
func anyArgs(chance *rand.Rand, names string, most int) []api.Arg {
	var l []api.Arg
	for range chance.Intn(most + 1) {
		l = append(l, anyArg(chance, names))
	}
	return l
}

// anyInstr answers an instruction as chance has it.
func anyInstr(chance *rand.Rand, names string) api.Instr {
	i := api.Instr{Op: chance.Intn(36), Name: "n", Args: anyArgs(chance, names, 2)}
	if at := chance.Intn(len(names) + 1); at < len(names) {
		i.Dst = names[at : at+1]
	}
	if chance.Intn(4) > 0 {
		return i
	}
	for range chance.Intn(3) {
		fr := api.Frame{Func: "g", Block: "b", At: chance.Intn(3)}
		for _, a := range anyArgs(chance, names, 2) {
			fr.Vars = append(fr.Vars, api.Bind{Name: names[:1], A: a})
		}
		i.Frames = append(i.Frames, fr)
	}
	for range chance.Intn(3) {
		i.Objs = append(i.Objs, api.Virt{Class: "P", Vals: anyArgs(chance, names, 2)})
	}
	return i
}

func TestUsesByChance(t *testing.T) {
	chance := rand.New(rand.NewSource(12))
	many := 0
	for range 20000 {
		i := anyInstr(chance, "vwxyz")
		got := live.Uses(i)
		if !slices.Equal(got, askedUses(i)) {
			t.Fatalf("%+v uses %q", i, got)
		}
		many += len(got)
	}
	if many < 10000 {
		t.Error(many)
	}
}

// Very many arguments: all is told soon.
func TestUsesOfVeryMany(t *testing.T) {
	i := api.Instr{Op: api.Guard}
	var want []string
	for n := range 1 << 17 {
		name := number(n)
		want = append(want, name)
		i.Args = append(i.Args, variable(name))
		i.Frames = append(i.Frames, api.Frame{Vars: []api.Bind{{A: variable(name)}}})
		i.Objs = append(i.Objs, api.Virt{Vals: []api.Arg{variable(name), variable(name)}})
	}
	slices.Reverse(i.Args)
	if got := live.Uses(i); !slices.Equal(got, want) {
		t.Errorf("%d are used, or others", len(got))
	}
}

// number answers a name for each number below 2^24, rising with it.
func number(n int) string {
	const digits = "0123456789abcdef"
	return string([]byte{'v', digits[n>>20&15], digits[n>>16&15], digits[n>>12&15], digits[n>>8&15], digits[n>>4&15], digits[n&15]})
}
