package assign_test

import (
	"math"
	"slices"
	"strings"
	"testing"

	"lateen/api"
	"lateen/assign"
	"lateen/live"
	"lateen/shape"
	"lateen/syntax"
)

// parsed answers the function whose lines body has, parted by /.
func parsed(t *testing.T, body string) api.Func {
	t.Helper()
	p, at, e := syntax.Parse("func f int\n" + strings.ReplaceAll(body, "/", "\n") + "\n")
	if e != api.OK {
		t.Fatalf("line %d: %d in %s", at, e, body)
	}
	return p.Funcs[0]
}

// read answers the names that s has, for each block, parted by |.
func read(s string) [][]string {
	var all [][]string
	for _, names := range strings.Split(s, "|") {
		all = append(all, strings.Fields(names))
	}
	return all
}

// variable answers the variable of that name.
func variable(name string) api.Arg {
	return api.Arg{Kind: api.KVar, S: name}
}

// noVariables are arguments that are none, whatever is in them.
var noVariables = []api.Arg{
	{}, {S: "x"}, {Kind: api.KInt, N: 7}, {Kind: api.KInt, S: "x"}, {Kind: api.KFloat, S: "x", N: -1}, {Kind: api.KNull, S: "x"}, {Kind: api.KNull},
	{Kind: api.KObj, S: "x", N: 3}, {Kind: 6, S: "x"}, {Kind: -1, S: "x"}, {Kind: math.MaxInt, S: "x"}, {Kind: math.MinInt, S: "x"},
}

// once answers the texts of l, each once, rising.
func once(l []string) []string {
	l = slices.Clone(l)
	slices.Sort(l)
	return slices.Compact(l)
}

// spot is a place of a function: of the block block, the number at.
type spot struct {
	block, at int
}

// walk goes all ways of a function on which one variable isn't set.
type walk struct {
	f    api.Func
	name string
	come []spot // where it has come to
	used bool   // whether the variable is used there
}

// walked answers the walk of the variable of that name, gone to its end.
func walked(f api.Func, name string) *walk {
	w := &walk{f: f, name: name}
	if !slices.ContainsFunc(f.Params, func(v api.Var) bool { return v.Name == name }) {
		w.come = []spot{{}}
	}
	for at := 0; at < len(w.come); at++ {
		if p := w.come[at]; p.at < len(f.Blocks[p.block].Code) {
			w.over(p, f.Blocks[p.block].Code[p.at])
		} else {
			w.on(f.Blocks[p.block])
		}
	}
	return w
}

// to comes to p.
func (w *walk) to(p spot) {
	if !slices.Contains(w.come, p) {
		w.come = append(w.come, p)
	}
}

// use looks whether a is the variable.
func (w *walk) use(a api.Arg) {
	w.used = w.used || a.Kind == api.KVar && a.S == w.name
}

// over goes over the instruction i, which stands at p.
func (w *walk) over(p spot, i api.Instr) {
	for _, a := range i.Args {
		w.use(a)
	}
	for _, fr := range i.Frames {
		for _, v := range fr.Vars {
			w.use(v.A)
		}
	}
	for _, o := range i.Objs {
		for _, a := range o.Vals {
			w.use(a)
		}
	}
	if i.Dst == "" || i.Dst != w.name {
		w.to(spot{p.block, p.at + 1})
	}
}

// on goes from the last place of b to those to which it leads.
func (w *walk) on(b api.Block) {
	if b.End.Kind == api.Branch || b.End.Kind == api.Ret {
		w.use(b.End.A)
	}
	for _, name := range b.End.To {
		to := slices.IndexFunc(w.f.Blocks, func(b api.Block) bool { return b.Name == name })
		set := false
		for _, p := range w.f.Blocks[to].Phis {
			set = set || p.Dst == w.name
			for _, in := range p.Ins {
				if in.Block == b.Name {
					w.use(in.A)
				}
			}
		}
		if !set {
			w.to(spot{to, 0})
		}
	}
}

// namesOf answers all variables that are parameters, or set or used in f.
func namesOf(f api.Func) []string {
	var names []string
	for _, v := range f.Params {
		names = append(names, v.Name)
	}
	for _, b := range f.Blocks {
		names = append(names, b.End.A.S)
		for _, p := range b.Phis {
			names = append(names, p.Dst)
			for _, in := range p.Ins {
				names = append(names, in.A.S)
			}
		}
		for _, i := range b.Code {
			names = append(append(names, i.Dst), live.Uses(i)...)
		}
	}
	return once(names)
}

// settable answers those of namesOf that are parameters or set somewhere.
func settable(f api.Func) []string {
	var names []string
	for _, v := range f.Params {
		names = append(names, v.Name)
	}
	for _, b := range f.Blocks {
		for _, p := range b.Phis {
			names = append(names, p.Dst)
		}
		for _, i := range b.Code {
			if i.Dst != "" {
				names = append(names, i.Dst)
			}
		}
	}
	return once(names)
}

// asked is another way of asking for Ins and Right: all ways are gone forward, of each variable on its own.
func asked(f api.Func) ([][]string, bool) {
	ins, right := make([][]string, len(f.Blocks)), true
	can := settable(f)
	for _, name := range namesOf(f) {
		w := walked(f, name)
		right = right && !w.used
		for block := range f.Blocks {
			if slices.Contains(can, name) && !slices.Contains(w.come, spot{block, 0}) {
				ins[block] = append(ins[block], name)
			}
		}
	}
	return ins, right
}

// hold holds what is told of f, whose shape is right, against ins and right.
func hold(t *testing.T, f api.Func, ins [][]string, right bool) {
	t.Helper()
	if !shape.Right(f) {
		t.Fatalf("the shape isn't right: %+v", f.Blocks)
	}
	if got := assign.Ins(f); !slices.EqualFunc(got, ins, slices.Equal[[]string]) {
		t.Fatalf("at first places %q are set, not %q:\n%+v\n%+v", got, ins, f.Params, f.Blocks)
	}
	if got := assign.Right(f); got != right {
		t.Fatalf("it is sound: %t, not %t:\n%+v\n%+v", got, right, f.Params, f.Blocks)
	}
}

// holdAsked holds what is told of f against what is asked; it tells whether f is sound.
func holdAsked(t *testing.T, f api.Func) bool {
	t.Helper()
	ins, right := asked(f)
	hold(t, f, ins, right)
	return right
}

// follows holds that of a sound function parameters alone are live at the first place of all; it answers how many.
func follows(t *testing.T, f api.Func) int {
	t.Helper()
	if !assign.Right(f) {
		return 0
	}
	names := live.At(f, 0, 0)
	for _, name := range names {
		if !slices.ContainsFunc(f.Params, func(v api.Var) bool { return v.Name == name }) {
			t.Fatalf("%s is live at first, and no parameter:\n%+v\n%+v", name, f.Params, f.Blocks)
		}
	}
	return len(names)
}

// all holds each function against what is told of its first places, and whether it is sound.
func all(t *testing.T, right bool, bodies map[string]string) {
	t.Helper()
	for body, ins := range bodies {
		f := parsed(t, body)
		hold(t, f, read(ins), right)
		if holdAsked(t, f) != right {
			t.Errorf("%s isn't asked so", body)
		}
		follows(t, f)
	}
}

func TestSound(t *testing.T) {
	all(t, true, map[string]string{
		// Parameters: set everywhere, each told once, rising, byte by byte; also if they are set again.
		"block a/ret 1": "",
		"block a/jump b/block b/jump c/block c/trap 10":                                                       "||",
		"param k int/block a/ret k":                                                                           "k",
		"param k int/block a/ret 1":                                                                           "k",
		"param c P/param a int/param b float/block a/jump d/block d/ret b":                                    "a b c|a b c",
		"param b1 int/param b int/param B int/param a_ int/param b11 int/param a1 int/block a/ret a_":         "B a1 a_ b b1 b11",
		"param k int/block a/k = add k 1/jump b/block b/ret k":                                                "k|k",
		"param k int/block a/branch k b c/block b/k = mov 1/jump c/block c/ret k":                             "k|k|k",
		"param k int/block a/jump b/block b/phi k a k/ret k":                                                  "k|k",
		"param k int/block a/jump b/block b/k = sub k 1/branch k b c/block c/ret k":                           "k|k|k",
		"param k int/block a/branch k b c/block b/out k/jump d/block c/trap 11/block d/jump e/block e/ret k":  "k|k|k|k|k",
		"param j int/param k int/block a/x = add j k/branch k b c/block b/y = mov x/ret y/block c/ret x":      "j k|j k x|j k x",
		"param x int/param y int/block a/branch x b c/block b/z = mov y/out z/jump c/block c/y = mov x/ret y": "x y|x y|x y",
		// Instructions set what they set, from behind them on; all that are there, not what is used.
		"block a/x = mov 1/ret x":                                                 "",
		"block a/x = mov 1/jump b/block b/ret x":                                  "|x",
		"block a/x = mov 1/y = mov x/x = mov y/jump b/block b/ret y":              "|x y",
		"block a/y = mov 1/x = mov 2/y = add y y/jump b/block b/ret x":            "|x y",
		"block a/x = mov 1/x = add x x/x = add x 1/ret x":                         "",
		"block a/x = mov 1/jump b/block b/y = mov x/jump c/block c/ret y":         "|x|x y",
		"block a/x = mov 1/jump b/block b/x = mov x/branch x b c/block c/trap 10": "|x|x",
		"block a/x = new P/y = load x f/store x f y/gstore g y/z = gload g/w = same x null/v = call h x y/u = ext e y/out u/guard/jump b/block b/ret v": "|u v w x y z",
		// On each way to a block, or on one alone; where nothing uses it that's no matter.
		"param k int/block a/branch k b c/block b/x = mov 1/jump d/block c/x = mov 2/jump d/block d/ret x":                               "k|k|k|k x",
		"param k int/block a/branch k b c/block b/x = mov 1/jump d/block c/jump d/block d/ret k":                                         "k|k|k|k",
		"param k int/block a/branch k b c/block b/x = mov 1/ret x/block c/ret k":                                                         "k|k|k",
		"param k int/block a/branch k b c/block b/x = mov 1/jump c/block c/x = mov 2/jump d/block d/ret x":                               "k|k|k|k x",
		"param k int/block a/x = mov 1/branch k b c/block b/y = mov x/jump d/block c/jump d/block d/ret x":                               "k|k x|k x|k x",
		"param k int/block a/branch k b c/block b/x = mov 1/y = mov 2/jump d/block c/z = mov 1/y = mov 2/jump d/block d/ret y":           "k|k|k|k y",
		"param k int/block a/branch k b c/block b/x = mov 1/jump d/block c/branch k e d/block e/x = mov 2/ret x/block d/ret k":           "k|k|k|k|k",
		"param k int/block a/branch k b c/block b/x = mov 1/jump e/block c/trap 12/block e/jump d/block d/ret x":                         "k|k|k|k x|k x",
		"param k int/block a/branch k b c/block b/branch k d e/block c/x = mov 1/jump e/block d/x = mov 2/jump e/block e/ret k":          "k|k|k|k|k",
		"param k int/block a/x = mov 0/branch k b c/block b/branch k d e/block c/jump e/block d/x = mov 2/jump e/block e/ret x":          "k|k x|k x|k x|k x",
		"param k int/block a/y = mov 1/branch k b c/block b/x = mov y/branch x d e/block c/x = mov 3/jump d/block d/ret x/block e/ret x": "k|k y|k y|k x y|k x y",
		// What is cut from a block's first place behind its back is cut behind it, too, if it doesn't set it itself.
		"param k int/block a/branch k b c/block b/x = mov 1/jump d/block c/jump e/block d/branch k e g/block e/jump d/block g/ret k":           "k|k|k|k|k|k",
		"param k int/block a/branch k b c/block b/x = mov 1/jump d/block c/jump e/block d/x = mov 2/branch k e g/block e/jump d/block g/ret x": "k|k|k|k|k|k x",
		// Rounds: set ahead of one, in one, also of one block; without an end.
		"block a/jump b/block b/jump b":                                                                                         "|",
		"block a/x = mov 1/jump b/block b/jump b":                                                                               "|x",
		"block a/jump b/block b/x = mov 1/out x/jump b":                                                                         "|",
		"block a/x = mov 1/jump b/block b/y = add x 1/x = mov y/jump b":                                                         "|x",
		"param k int/block a/x = mov 1/jump h/block h/branch k b d/block b/y = add x 1/jump h/block d/ret x":                    "k|k x|k x|k x",
		"param k int/block a/jump h/block h/branch k b d/block b/x = mov 1/y = mov x/jump h/block d/ret k":                      "k|k|k|k",
		"param k int/block a/jump h/block h/x = mov 1/branch x b d/block b/jump h/block d/ret x":                                "k|k|k x|k x",
		"param k int/block a/x = mov 9/jump h/block h/branch x b d/block b/x = sub x 1/jump h/block d/ret x":                    "k|k x|k x|k x",
		"param k int/block a/jump h/block h/x = mov 1/jump g/block g/y = mov x/branch k g i/block i/branch y h d/block d/ret y": "k|k|k x|k x y|k x y",
		"param k int/block a/branch k b c/block b/x = mov 1/jump c/block c/x = mov 2/branch k b d/block d/ret x":                "k|k|k|k x",
		// Variables of frames, and fields of objects; what these are named, and virtual objects, aren't used.
		"block a/guard/at f b 1 x 1 y #0 z null/at g c 2/obj w #1/obj Q null #0/ret 1":                              "",
		"param k int/block a/x = mov 1/guard/at f b 0 y x/at g b 1 z k/obj P x/ret x":                               "k",
		"param k int/block a/x = mov 1/y = call f x/at f b 0 z x/obj P k x/jump b/block b/guard/at f b 0 z y/ret y": "k|k x y",
		// What jumps and traps tell isn't used, nor names of classes, fields, globals, externs, functions and blocks.
		"param o P/block a/x = load o y/store o z x/gstore u x/w = gload v/n = new q w/m = ext e x/l = call g/jump b/block b/ret l": "o|l m n o w x",
	})
}

func TestNotSound(t *testing.T) {
	all(t, false, map[string]string{
		// Never set, or behind its use alone.
		"block a/ret x":                                               "",
		"param k int/block a/ret x":                                   "k",
		"block a/out x/ret 1":                                         "",
		"block a/x = mov y/ret x":                                     "",
		"block a/x = mov 1/y = add x z/ret y":                         "",
		"block a/x = mov 1/y = add z x/ret y":                         "",
		"block a/out x/x = mov 1/ret x":                               "",
		"block a/jump b/block b/out x/x = mov 1/jump c/block c/ret x": "||x",
		"block a/x = new P 1 y null/ret x":                            "",
		"block a/x = mov 1/store x f y/ret x":                         "",
		// What an instruction uses must be set ahead of it: that it sets it is no help.
		"block a/x = add x 1/ret x":                                     "",
		"block a/x = add 1 x/ret 1":                                     "",
		"block a/x = mov x/ret 1":                                       "",
		"block a/x = call f x/ret x":                                    "",
		"block a/x = call f/at f b 0 y x/ret x":                         "",
		"block a/x = call f/at f b 0/obj P x/ret x":                     "",
		"block a/jump b/block b/x = add x 1/branch 1 b c/block c/ret x": "||x",
		// Ends.
		"block a/branch x b c/block b/x = mov 1/ret x/block c/ret 2": "||",
		"block a/x = mov 1/branch y b c/block b/ret x/block c/ret x": "|x|x",
		"block a/x = mov 1/branch x b c/block b/ret x/block c/ret y": "|x|x",
		// Frames and objects, the last ones, too.
		"block a/guard/at f b 1 y z/ret 1":                                     "",
		"block a/x = mov 1/guard/at f b 1 x x y z/ret 1":                       "",
		"block a/x = mov 1/guard/at f b 1 x x/at g c 2 y y/ret 1":              "",
		"block a/x = mov 1/guard/at f b 1 x 1/at g c 2/at h d 1 y x z u/ret 1": "",
		"block a/guard/obj P x/ret 1":                                          "",
		"block a/x = mov 1/guard/at f b 1/obj P x/obj Q/obj R x #0 1 y/ret 1":  "",
		"block a/x = mov 1/y = call f x/at f b 1 x x/obj P y/ret 1":            "",
		// On one way alone: whichever it is, and however far ahead.
		"param k int/block a/branch k b c/block b/x = mov 1/jump d/block c/jump d/block d/ret x":                                     "k|k|k|k",
		"param k int/block a/branch k b c/block b/jump d/block c/x = mov 1/jump d/block d/ret x":                                     "k|k|k|k",
		"param k int/block a/branch k b c/block b/x = mov 1/jump c/block c/ret x":                                                    "k|k|k",
		"param k int/block a/branch k c b/block b/x = mov 1/jump c/block c/ret x":                                                    "k|k|k",
		"param k int/block a/branch k b c/block b/x = mov 1/jump d/block c/y = mov 1/jump d/block d/z = add x y/ret z":               "k|k|k|k",
		"param k int/block a/branch k b c/block b/x = mov 1/ret x/block c/ret x":                                                     "k|k|k",
		"param k int/block a/branch k b c/block b/x = mov 1/jump d/block c/jump d/block d/jump e/block e/jump g/block g/ret x":       "k|k|k|k|k|k",
		"param k int/block a/branch k b c/block b/branch k d e/block c/x = mov 1/jump e/block d/x = mov 2/jump e/block e/ret x":      "k|k|k|k|k",
		"param k int/block a/branch k b c/block b/x = mov 1/jump d/block c/jump e/block d/branch k e g/block e/jump d/block g/ret x": "k|k|k|k|k|k",
		// The chapter's example, with k a parameter and without one.
		"param k int/block b0/branch k b1 b2/block b1/x = mov 1/jump b2/block b2/ret x": "k|k|k",
		"block b0/branch k b1 b2/block b1/x = mov 1/jump b2/block b2/ret x":             "||",
		// Rounds: what is set in one alone isn't set at its beginning, nor behind it, if it may not be gone.
		"block a/jump b/block b/out x/jump b":                                                                                        "|",
		"block a/jump b/block b/out x/x = mov 1/jump b":                                                                              "|",
		"param k int/block a/jump b/block b/out x/x = mov 1/branch k b c/block c/ret x":                                              "k|k|k x",
		"param k int/block a/jump h/block h/branch k b d/block b/x = mov 1/jump h/block d/ret x":                                     "k|k|k|k",
		"param k int/block a/jump h/block h/branch x b d/block b/x = mov 1/jump h/block d/ret k":                                     "k|k|k|k",
		"param k int/block a/jump h/block h/branch k b d/block b/out x/x = mov 1/jump h/block d/ret k":                               "k|k|k|k",
		"param k int/block a/jump h/block h/jump g/block g/branch k c i/block c/x = mov 1/jump g/block i/branch k h d/block d/ret x": "k|k|k|k|k|k",
		"param k int/block a/branch k b c/block b/x = mov 1/jump c/block c/branch k b d/block d/ret x":                               "k|k|k|k",
		"param k int/block a/branch k b c/block b/out x/jump c/block c/x = mov 1/branch k b d/block d/jump b":                        "k|k|k|k x",
	})
}

func TestPhis(t *testing.T) {
	all(t, true, map[string]string{
		// All phis of a block have set what they set at its first place.
		"block a/jump b/block b/phi x a 1/ret x":                                                               "|x",
		"block a/jump b/block b/phi x a 1/phi y a 2/ret y":                                                     "|x y",
		"block a/jump b/block b/phi y a 1/phi x a 2/jump c/block c/ret y":                                      "|x y|x y",
		"block a/jump b/block b/phi x a null/jump c/block c/y = mov x/ret y":                                   "|x|x",
		"param k int/block a/branch k b c/block b/jump d/block c/jump d/block d/phi x b 1 c 2/ret x":           "k|k|k|k x",
		"param k int/block a/branch k b c/block b/phi x a 1/ret x/block c/phi y a 1/ret y":                     "k|k x|k y",
		"param k int/block a/x = mov 1/branch k b c/block b/jump d/block c/jump d/block d/phi x b 1 c x/ret x": "k|k x|k x|k x",
		// What a phi uses is set at the last place of the block from which it comes: also if that alone sets it, last of all.
		"block a/y = mov 1/jump b/block b/phi x a y/ret x":                                                                   "|x y",
		"param k int/block a/branch k b c/block b/y = mov 1/jump d/block c/z = mov 2/jump d/block d/phi x b y c z/ret x":     "k|k|k|k x",
		"param k int/block a/branch k b c/block b/y = mov 1/jump d/block c/z = mov 2/jump d/block d/phi x c z b y/ret x":     "k|k|k|k x",
		"param k int/block a/branch k b c/block b/y = mov 1/jump d/block c/jump d/block d/phi x b y c k/phi w c 1 b y/ret w": "k|k|k|k w x",
		"param k int/block a/branch k b d/block b/y = mov 1/jump d/block d/phi x a k b y/ret x":                              "k|k|k x",
		"param k int/block a/jump b/block b/phi x a k/jump c/block c/phi y b x/ret y":                                        "k|k x|k x y",
		// All at once: those of one block may use what others of it, or they themselves, set, if it was set ahead of it.
		"param x int/block a/jump b/block b/phi x a x/ret x":                                        "x|x",
		"param x int/param y int/block a/jump b/block b/phi x a y/phi y a x/ret x":                  "x y|x y",
		"block a/x = mov 1/y = mov 2/jump b/block b/phi x a y/phi y a x/ret x":                      "|x y",
		"param k int/block a/jump b/block b/phi x a 1 b y/phi y a 2 b x/branch k b c/block c/ret y": "k|k x y|k x y",
		"param k int/block a/jump b/block b/phi x a 1 b x/branch k b c/block c/ret x":               "k|k x|k x",
		// Rounds: what comes around is set on the way.
		"param k int/block a/jump h/block h/phi i a k b j/branch i b d/block b/j = sub i 1/jump h/block d/ret i":                          "k|i k|i k|i k",
		"param k int/block a/x = mov 1/jump h/block h/phi i a 1 b j/branch i b d/block b/j = mov 2/jump h/block d/ret i":                  "k|i k x|i k x|i k x",
		"param k int/block a/jump b/block b/phi x a 1 b y/y = add x 1/branch y b c/block c/ret y":                                         "k|k x|k x y",
		"block a/jump b/block b/phi x a 1 b 2/jump b":                                                                                     "|x",
		"param k int/block a/jump h/block h/phi i a 0 b j c i/branch k b c/block b/j = add i 1/jump h/block c/branch k h d/block d/ret i": "k|i k|i k|i k|i k",
		// A phi's variable that is set on the ways to its block, too, or a parameter.
		"param k int/block a/branch k b c/block b/x = mov 1/jump d/block c/jump d/block d/phi x b x c k/ret x": "k|k|k|k x",
		// One variable of several phis.
		"block a/jump b/block b/phi x a 1/phi x a 2/ret x": "|x",
		// The same names as the blocks'.
		"param a int/block a/b = mov 1/jump b/block b/phi c a b/branch a c d/block c/ret c/block d/ret b": "a|a b c|a b c|a b c",
	})
	all(t, false, map[string]string{
		"block a/jump b/block b/phi x a y/ret x": "|x",
		"block a/jump b/block b/phi x a y/ret 1": "|x",
		"block a/jump b/block b/phi x a 1/ret y": "|x",
		// That the phi, another one of its block, or what stands in the block sets it is no help.
		"block a/jump b/block b/phi x a x/ret x":                                                    "|x",
		"block a/jump b/block b/phi x a y/phi y a 1/ret x":                                          "|x y",
		"block a/jump b/block b/phi y a 1/phi x a y/ret x":                                          "|x y",
		"block a/x = mov 1/jump b/block b/phi x a y/phi y a x/ret x":                                "|x y",
		"block a/jump b/block b/phi x a y/y = mov 1/ret x":                                          "|x",
		"param k int/block a/jump b/block b/phi x a 1 b y/phi y a x b 2/branch k b c/block c/ret y": "k|k x y|k x y",
		// Set, but on the way from another block, or on none of them all along.
		"param k int/block a/branch k b c/block b/y = mov 1/jump d/block c/z = mov 2/jump d/block d/phi x b z c y/ret x": "k|k|k|k x",
		"param k int/block a/branch k b c/block b/y = mov 1/jump d/block c/jump d/block d/phi x b 1 c y/ret x":           "k|k|k|k x",
		"param k int/block a/branch k b c/block b/jump d/block c/y = mov 1/jump d/block d/phi x b y c 1/ret x":           "k|k|k|k x",
		"param k int/block a/branch k b d/block b/y = mov 1/jump d/block d/phi x a y b 1/ret x":                          "k|k|k x",
		"param k int/block a/branch k b c/block b/y = mov 1/jump c/block c/jump d/block d/phi x c y/ret x":               "k|k|k|k x",
		"param k int/block a/branch k b c/block b/phi x a 1/jump d/block c/jump d/block d/ret x":                         "k|k x|k|k",
		"param k int/block a/branch k b c/block b/phi x a 1/ret x/block c/ret x":                                         "k|k x|k",
		"param k int/block a/branch k b c/block b/phi x a 1/ret x/block c/phi y a x/ret y":                               "k|k x|k y",
		// An end doesn't use what phis behind it set.
		"block a/branch x b c/block b/phi x a 1/ret x/block c/phi x a 2/ret x": "|x|x",
		// Rounds: what is set in one isn't on the way into it; a phi uses it there, too.
		"param k int/block a/jump h/block h/phi i a j b k/branch i b d/block b/j = sub i 1/jump h/block d/ret i": "k|i k|i k|i k",
		"param k int/block a/jump h/block h/phi i a k b j/branch i b d/block b/j = sub i 1/jump h/block d/ret j": "k|i k|i k|i k",
		"param k int/block a/jump h/block h/phi i a k b j/branch j b d/block b/j = sub i 1/jump h/block d/ret i": "k|i k|i k|i k",
		"param k int/block a/jump b/block b/phi x a x b 1/branch k b c/block c/ret x":                            "k|k x|k x",
		"param k int/block a/jump b/block b/phi x a 1 b y/branch k b c/block c/ret x":                            "k|k x|k x",
		"param k int/block a/jump b/block b/phi x a y b 1/y = add x 1/branch y b c/block c/ret y":                "k|k x|k x y",
	})
}
