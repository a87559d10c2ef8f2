package live_test

import (
	"math"
	"math/rand"
	"slices"
	"strings"
	"testing"

	"lateen/api"
	"lateen/live"
	"lateen/shape"
)

// lists is, for each of some places or blocks, a list of names.
type lists = [][]string

// same tells whether two of them are the same, nil and empty lists being one.
func same(a, b lists) bool {
	return slices.EqualFunc(a, b, slices.Equal[[]string])
}

// read answers the lists that s has, for each block those of its places: blocks are parted by |, places by /.
func read(s string) []lists {
	var all []lists
	for _, block := range strings.Split(s, "|") {
		var l lists
		for _, place := range strings.Split(block, "/") {
			l = append(l, words(place))
		}
		all = append(all, l)
	}
	return all
}

// spot is a place of a function: of the block block, the number at.
type spot struct {
	block, at int
}

// asker asks of one variable of a function, whether it is live at places.
type asker struct {
	f    api.Func
	name string
}

// isIt tells whether a is the variable that is asked of.
func (a asker) isIt(arg api.Arg) bool {
	return arg.Kind == 1 && arg.S == a.name
}

// over answers whether the variable is used at p, and to which places the ways lead from there on which it isn't set.
func (a asker) over(p spot) (bool, []spot) {
	b := a.f.Blocks[p.block]
	if p.at < len(b.Code) {
		i := b.Code[p.at]
		if a.name != "" && i.Dst == a.name {
			return slices.Contains(askedUses(i), a.name), nil
		}
		return slices.Contains(askedUses(i), a.name), []spot{{p.block, p.at + 1}}
	}
	used := a.isIt(b.End.A) && (b.End.Kind == api.Branch || b.End.Kind == api.Ret)
	var next []spot
	for _, name := range b.End.To {
		to := slices.IndexFunc(a.f.Blocks, func(b api.Block) bool { return b.Name == name })
		set := false
		for _, p := range a.f.Blocks[to].Phis {
			used = used || slices.ContainsFunc(p.Ins, func(in api.In) bool { return in.Block == b.Name && a.isIt(in.A) })
			set = set || p.Dst == a.name
		}
		if !set {
			next = append(next, spot{to, 0})
		}
	}
	return used, next
}

// isLive tells whether a way leads from p to where the variable is used, on which it isn't set ahead of that: all ways are gone forward.
func (a asker) isLive(p spot) bool {
	come := []spot{p}
	for at := 0; at < len(come); at++ {
		used, next := a.over(come[at])
		if used {
			return true
		}
		for _, to := range next {
			if !slices.Contains(come, to) {
				come = append(come, to)
			}
		}
	}
	return false
}

// namesOf answers all variables that are used or set in f.
func namesOf(f api.Func) []string {
	var names []string
	arg := func(a api.Arg) {
		if a.Kind == 1 {
			names = append(names, a.S)
		}
	}
	for _, b := range f.Blocks {
		for _, p := range b.Phis {
			names = append(names, p.Dst)
			for _, in := range p.Ins {
				arg(in.A)
			}
		}
		for _, i := range b.Code {
			names = append(append(names, i.Dst), askedUses(i)...)
		}
		arg(b.End.A)
	}
	return once(names)
}

// asked is another way of asking for All: of each place and each variable on its own.
func asked(f api.Func) []lists {
	names := namesOf(f)
	all := make([]lists, len(f.Blocks))
	for block, b := range f.Blocks {
		for at := range len(b.Code) + 1 {
			var l []string
			for _, name := range names {
				if (asker{f, name}).isLive(spot{block, at}) {
					l = append(l, name)
				}
			}
			all[block] = append(all[block], l)
		}
	}
	return all
}

// hold holds what is told of f, whose shape is right, against want.
func hold(t *testing.T, f api.Func, want []lists) {
	t.Helper()
	if !shape.Right(f) {
		t.Fatalf("the shape isn't right: %+v", f.Blocks)
	}
	all := live.All(f)
	if !slices.EqualFunc(all, want, same) {
		t.Fatalf("all are %q, not %q:\n%+v", all, want, f.Blocks)
	}
	ins := live.Ins(f)
	if len(ins) != len(f.Blocks) {
		t.Fatalf("of %d blocks %d are told of", len(f.Blocks), len(ins))
	}
	for block := range want {
		if !slices.Equal(ins[block], want[block][0]) {
			t.Fatalf("at the first place of %d are %q, not %q:\n%+v", block, ins[block], want[block][0], f.Blocks)
		}
		for at, names := range want[block] {
			if got := live.At(f, block, at); !slices.Equal(got, names) {
				t.Fatalf("at %d of %d are %q, not %q:\n%+v", at, block, got, names, f.Blocks)
			}
		}
	}
	for block := -1; block <= len(f.Blocks); block++ {
		beyond := 0
		if block >= 0 && block < len(f.Blocks) {
			beyond = len(f.Blocks[block].Code) + 1
		}
		for _, at := range []int{-1, beyond} {
			if got := live.At(f, block, at); len(got) > 0 {
				t.Fatalf("there is no %d of %d, and yet %q:\n%+v", at, block, got, f.Blocks)
			}
		}
	}
}

// follows holds what is live ahead of each instruction of f against what it uses, and what is live behind it, but for what it sets.
func follows(t *testing.T, f api.Func) {
	t.Helper()
	all := live.All(f)
	for block, b := range f.Blocks {
		for at, i := range b.Code {
			behind := slices.DeleteFunc(slices.Clone(all[block][at+1]), func(name string) bool { return i.Dst != "" && name == i.Dst })
			if want := once(append(behind, live.Uses(i)...)); !slices.Equal(all[block][at], want) {
				t.Fatalf("ahead of %d of %d are %q, not %q:\n%+v", at, block, all[block][at], want, f.Blocks)
			}
		}
	}
}

func TestLive(t *testing.T) {
	for body, want := range map[string]string{
		// The chapter's example.
		"block a/x = mov 1/y = add x z/ret y": "z/x z/y",
		// Ends of each kind, with a variable and without one; no instructions.
		"block a/ret 1": "", "block a/ret x": "x", "block a/ret null": "", "block a/trap 12": "",
		"block a/jump b/block b/ret x":                               "x|x",
		"block a/branch x b c/block b/ret 1/block c/ret 2":           "x||",
		"block a/branch 1 b c/block b/ret y/block c/ret x":           "x y|y|x",
		"block a/branch x b c/block b/trap 10/block c/ret z":         "x z||z",
		"block a/jump b/block b/jump c/block c/jump d/block d/ret x": "x|x|x|x",
		// Set, and used behind; ahead; never; set again.
		"block a/x = mov 1/ret x":                       "/x",
		"block a/out x/x = mov 1/ret 2":                 "x//",
		"block a/out x/x = mov 1/ret x":                 "x//x",
		"block a/x = mov 1/ret 2":                       "/",
		"block a/x = mov 1/x = mov 2/ret x":             "//x",
		"block a/x = mov y/x = mov z/ret x":             "y z/z/x",
		"block a/x = mov 1/out x/x = mov 2/out x/ret x": "/x//x/x",
		// An instruction that uses a variable more than once, or sets one that it uses.
		"block a/x = add y y/ret x":                 "y/x",
		"block a/x = add x 1/ret x":                 "x/x",
		"block a/x = add x x/ret 1":                 "x/",
		"block a/x = mov x/x = mov x/ret x":         "x/x/x",
		"block a/y = mov x/x = mov y/ret x":         "x/y/x",
		"block a/x = call f x x/at f a 0 x x/ret x": "x/x",
		// A Dst that is empty sets nothing.
		"block a/out x/store x p y/guard/gstore x y/ret x": "x y/x y/x y/x y/x",
		// Variables of frames and objects; what these are named, and virtual objects, aren't used.
		"block a/guard/at f a 0 q x r #0 s 1/at g b 1 t y/obj P z #0/obj Q/ret w": "w x y z/w",
		"block a/x = mov 1/guard/at f a 0 y x/ret y":                              "y/x y/y",
		"block a/x = call f/at f a 0 y x/obj P z/ret x":                           "x z/x",
		"block a/x = call f z/at f a 0 y w/obj P x/y = mov 1/ret x":               "w x z/x/x",
		// Live from the first place on, or on one branch alone.
		"block a/jump b/block b/x = mov 1/jump c/block c/out z/out x/ret k":                                "k z|k z/k x z|k x z/k x/k",
		"block a/branch k b c/block b/x = mov 1/jump d/block c/jump d/block d/ret x":                       "k x|/x|x|x",
		"block a/branch k b c/block b/x = mov 1/jump d/block c/x = mov 2/jump d/block d/ret x":             "k|/x|/x|x",
		"block a/x = mov 5/branch k b c/block b/ret x/block c/ret 1":                                       "k/k x|x|",
		"block a/x = mov 5/branch x b c/block b/x = mov 1/jump d/block c/y = add x 1/jump d/block d/ret 9": "/x|/|x/|",
		"block a/branch k b d/block b/out x/jump c/block c/out y/jump d/block d/out z/ret k":               "k x y z|k x y z/k y z|k y z/k z|k z/k",
		// Rounds: of one block, of several, within one another, without an end.
		"block a/jump b/block b/jump b":                                                                                        "|",
		"block a/jump b/block b/out x/jump b":                                                                                  "x|x/x",
		"block a/jump b/block b/x = mov 1/out x/jump b":                                                                        "|/x/",
		"block a/jump b/block b/out x/x = mov 1/jump b":                                                                        "x|x//x",
		"block a/jump b/block b/x = add x y/branch x b c/block c/ret z":                                                        "x y z|x y z/x y z|z",
		"block a/i = mov 0/jump h/block h/c = lt i n/branch c b d/block b/i = add i m/jump h/block d/ret k":                    "k m n/i k m n|i k m n/c i k m n|i k m n/i k m n|k",
		"block a/jump h/block h/branch k b d/block b/jump g/block g/branch j c h/block c/out x/jump g/block d/ret y":           "j k x y|j k x y|j k x y|j k x y|j k x y/j k x y|y",
		"block a/jump h/block h/branch k b d/block b/x = mov 1/jump g/block g/branch j c h/block c/out x/jump g/block d/ret y": "j k y|j k y|j k y/j k x y|j k x y|j k x y/j k x y|y",
		"block a/branch k b c/block b/jump c/block c/x = add x 1/jump b":                                                       "k x|x|x/x",
		// Blocks in another order than they are gone through.
		"block a/jump d/block b/ret x/block c/x = mov y/jump b/block d/out z/jump c": "y z|x|y/x|y z/y",
		"block a/jump e/block b/ret x/block c/jump b/block d/jump c/block e/jump d":  "x|x|x|x|x",
	} {
		f := parsed(t, body)
		hold(t, f, read(want))
		hold(t, f, asked(f))
		follows(t, f)
	}
}

func TestPhis(t *testing.T) {
	for body, want := range map[string]string{
		// What a phi is from a block is used on the way from there, and on no other one; and then it is set.
		"block a/branch k b c/block b/jump d/block c/jump d/block d/phi x b y c z/ret x": "k y z|y|z|x",
		"block a/branch k b c/block b/jump d/block c/jump d/block d/phi x b 1 c z/ret x": "k z||z|x",
		"block a/branch k b c/block b/jump d/block c/jump d/block d/phi x b 1 c 2/ret y": "k y|y|y|y",
		"block a/jump b/block b/phi x a y/ret 1":                                         "y|",
		"block a/jump b/block b/phi x a x/ret x":                                         "x|x",
		"block a/jump b/block b/phi x a null/ret x":                                      "|x",
		"block a/y = mov 1/jump b/block b/phi x a y/ret x":                               "/y|x",
		"block a/y = mov 1/jump b/block b/phi x a y/ret y":                               "/y|y",
		"block a/x = mov 1/jump b/block b/phi x a 2/ret x":                               "/|x",
		"block a/x = mov 1/jump b/block b/phi y a 2/ret x":                               "/x|x",
		// An end may use what a phi behind it sets.
		"block a/branch x b c/block b/phi x a 1/ret x/block c/phi y a 1/ret x": "x|x|x",
		"block a/branch x b c/block b/phi x a 1/ret x/block c/phi x a 1/ret x": "x|x|x",
		"block a/branch k b c/block b/phi x a y/ret x/block c/phi y a x/ret y": "k x y|x|y",
		// The same variable from several blocks, and one that is something else from each.
		"block a/branch k b c/block b/jump d/block c/jump d/block d/phi x b y c y/ret x":                             "k y|y|y|x",
		"block a/branch k b c/block b/jump d/block c/jump d/block d/phi x b y c y/phi z c y b y/ret y":               "k y|y|y|y",
		"block a/branch k b d/block b/branch j c d/block c/jump d/block d/phi x a y b z c y/phi u a 1 b 2 c v/ret x": "j k v y z|j v y z|v y|x",
		// Several phis, all at once: each uses what was ahead of all of them.
		"block a/jump b/block b/phi x a y/phi y a x/ret x":                                    "x y|x",
		"block a/jump b/block b/phi x a y/phi y a z/phi z a x/ret 1":                          "x y z|",
		"block a/jump b/block b/phi y a 1/phi x a y/ret x":                                    "y|x",
		"block a/jump b/block b/phi x a y/phi y a 1/ret x":                                    "y|x",
		"block a/jump b/block b/phi x a 1 b y/phi y a 2 b x/branch x b c/block c/ret 1":       "|x y|",
		"block a/jump b/block b/phi x a 1 b y/phi y a 2 b x/branch k b c/block c/ret x":       "k|k x y|x",
		"block a/jump b/block b/phi x a 1 b y/phi y a 2 b 3/branch k b c/block c/ret x":       "k|k x y|x",
		"block a/jump b/block b/phi x a u b x/phi y a x b u/branch k b c/block c/out u/ret 1": "k u x|k u x|u/",
		// Rounds: a phi of a block that leads to itself, and of a head with two that lead back.
		"block a/jump b/block b/phi x a 1 b y/y = add x 1/branch y b c/block c/ret y":                                         "|x/y|y",
		"block a/jump b/block b/phi x a 1 b x/branch k b c/block c/ret 2":                                                     "k|k x|",
		"block a/jump b/block b/phi x a 1 b 2/jump b":                                                                         "|",
		"block a/jump h/block h/phi i a 0 b j c i/branch k b c/block b/j = add i 1/jump h/block c/branch j h d/block d/ret j": "j k|i j k|i k/j k|i j k|j",
		"block a/jump h/block h/phi i a 0 b j/c = lt i n/branch c b d/block b/j = add i 1/jump h/block d/ret i":               "n|i n/c i n|i n/j n|i",
		// One variable of several phis.
		"block a/jump b/block b/phi x a y/phi x a z/ret x": "y z|x",
		// The same names as the blocks'.
		"block a/branch a b c/block b/a = mov c/jump c/block c/phi b a b b a/ret c": "a b c|c/a c|c",
	} {
		f := parsed(t, body)
		hold(t, f, read(want))
		hold(t, f, asked(f))
		follows(t, f)
	}
}

// An end's kind tells whether it uses its argument, not where it leads to; what isn't a variable isn't used.
func TestEnds(t *testing.T) {
	for _, kind := range []int{api.Jump, api.Branch, api.Ret, api.Trap, 0, -1, 5, math.MaxInt, math.MinInt} {
		for _, to := range (lists{nil, {"b"}, {"b", "c"}, {"c", "d", "b"}}) {
			for _, a := range append([]api.Arg{variable("x"), variable(""), {Kind: api.KVar, S: "y", N: 9}}, others...) {
				f := api.Func{Blocks: []api.Block{{Name: "a", End: api.Term{Kind: kind, A: a, To: to, N: 3}}}}
				var behind, want []string
				for _, name := range to {
					f.Blocks = append(f.Blocks, api.Block{Name: name, End: api.Term{Kind: api.Ret, A: variable("r" + name)}})
					behind = append(behind, "r"+name)
				}
				want = behind
				if a.Kind == api.KVar && (kind == api.Branch || kind == api.Ret) {
					want = append([]string{a.S}, behind...)
				}
				all := []lists{{once(want)}}
				for _, name := range behind {
					all = append(all, lists{{name}})
				}
				hold(t, f, all)
			}
		}
	}
}

// Where there is no such place, nothing is live.
func TestPlacesThatThereAreNot(t *testing.T) {
	f := parsed(t, "block a/out x/jump b/block b/jump c/block c/x = add x y/out x/branch x b d/block d/ret z")
	many := []int{1, 0, 2, 0}
	far := []int{math.MinInt, math.MinInt32, -1 << 32, -5, -2, -1, 0, 1, 2, 3, 4, 5, 6, 1 << 31, 1 << 32, 1<<32 + 1, math.MaxInt32, math.MaxInt - 1, math.MaxInt}
	for _, block := range far {
		for _, at := range far {
			is := block >= 0 && block < 4 && at >= 0 && at <= many[block]
			if got := live.At(f, block, at); len(got) > 0 != is {
				t.Errorf("%q at %d of %d", got, at, block)
			}
		}
	}
}

// Names that no text has are names like all others; but an instruction without a Dst doesn't set the empty one.
func TestOddNames(t *testing.T) {
	odd := []string{"", " ", "a ", " a", "A", "a", "\x00", "a\x00", "\xff", "0", "-1", "#0", "null", "a\nb", strings.Repeat("a", 1<<12)}
	for _, name := range odd {
		f := api.Func{Blocks: []api.Block{
			{Name: name, Code: []api.Instr{{Op: api.Out, Args: []api.Arg{variable(name)}}, {Op: api.Mov, Dst: name}, {Op: api.Guard, Args: []api.Arg{variable("b")}}}, End: api.Term{Kind: api.Jump, To: []string{name + "x"}}},
			{Name: name + "x", Phis: []api.Phi{{Dst: name + "y", Ins: []api.In{{Block: name, A: variable(name + "z")}}}}, Code: []api.Instr{{Dst: "b", Args: []api.Arg{variable(name)}}}, End: api.Term{Kind: api.Ret, A: variable(name + "y")}},
		}}
		hold(t, f, asked(f))
		follows(t, f)
		kept := []string{"b", name, name + "z"}
		if name != "" {
			kept = []string{"b", name + "z"}
		}
		if got := live.At(f, 0, 1); !slices.Equal(got, once(kept)) {
			t.Errorf("%q: %q", name, got)
		}
	}
	// The empty one is live ahead of blocks whose instructions set nothing.
	f := api.Func{Blocks: []api.Block{
		{Name: "a", Code: []api.Instr{{Op: api.Guard}}, End: api.Term{To: []string{"b"}}},
		{Name: "b", Code: []api.Instr{{Op: api.Out}, {Op: api.Mov, Dst: "x"}}, End: api.Term{To: []string{"c"}}},
		{Name: "c", End: api.Term{Kind: api.Ret, A: variable("")}},
	}}
	hold(t, f, read("-/-|-/-/-|-"))
	f = api.Func{}
	for at, name := range odd {
		b := api.Block{Name: name, End: api.Term{Kind: api.Branch, A: variable(name)}}
		if at+1 < len(odd) {
			b.End.To = odd[at+1 : at+2]
		}
		f.Blocks = append(f.Blocks, b)
	}
	hold(t, f, asked(f))
	if got := live.Ins(f); !slices.Equal(got[0], once(odd)) {
		t.Errorf("%q", got[0])
	}
}

// Blocks in another order, and phis and their Ins likewise, change nothing.
func TestOtherOrders(t *testing.T) {
	byChance(2000, func(chance *rand.Rand, f api.Func) {
		want := map[string]lists{}
		for at, l := range live.All(f) {
			want[f.Blocks[at].Name] = l
		}
		for range 3 {
			swap := func(i, j int) { f.Blocks[i+1], f.Blocks[j+1] = f.Blocks[j+1], f.Blocks[i+1] }
			chance.Shuffle(len(f.Blocks)-1, swap)
			for _, b := range f.Blocks {
				chance.Shuffle(len(b.Phis), func(i, j int) { b.Phis[i], b.Phis[j] = b.Phis[j], b.Phis[i] })
				chance.Shuffle(len(b.End.To), func(i, j int) { b.End.To[i], b.End.To[j] = b.End.To[j], b.End.To[i] })
				for _, p := range b.Phis {
					chance.Shuffle(len(p.Ins), func(i, j int) { p.Ins[i], p.Ins[j] = p.Ins[j], p.Ins[i] })
				}
			}
			for at, l := range live.All(f) {
				if !same(l, want[f.Blocks[at].Name]) {
					t.Fatalf("in another order %q, not %q:\n%+v", l, want[f.Blocks[at].Name], f.Blocks)
				}
			}
		}
	})
}

// byChance calls do with functions of up to eight blocks as chance has them (always the same), whose shape is right, and whose phis are right, most often.
func byChance(times int, do func(*rand.Rand, api.Func)) {
	chance := rand.New(rand.NewSource(12))
	for range times {
		do(chance, anyFunc(chance, "vwxyz"[:1+chance.Intn(5)]))
	}
}

// anyFunc answers a function as chance has it, with these variables.
func anyFunc(chance *rand.Rand, names string) api.Func {
	f := api.Func{Blocks: make([]api.Block, 1+chance.Intn(8))}
	for at, name := range chance.Perm(len(f.Blocks)) {
		b := &f.Blocks[at]
		b.Name = "abcdefgh"[name : name+1]
		b.End = api.Term{Kind: chance.Intn(6), A: anyArg(chance, names)}
		for range chance.Intn(4) {
			b.Code = append(b.Code, anyInstr(chance, names))
		}
	}
	lead := func(from, to int) {
		end := &f.Blocks[from].End
		if name := f.Blocks[to].Name; to > 0 && !slices.Contains(end.To, name) {
			end.To = append(end.To, name)
		}
	}
	for to := 1; to < len(f.Blocks); to++ {
		lead(chance.Intn(to), to)
	}
	for range chance.Intn(7) {
		lead(chance.Intn(len(f.Blocks)), chance.Intn(len(f.Blocks)))
	}
	layPhis(chance, f, names)
	l := f.Blocks[1:]
	chance.Shuffle(len(l), func(i, j int) { l[i], l[j] = l[j], l[i] })
	return f
}

// layPhis lays phis into blocks of f, as chance has them: some of which aren't right.
func layPhis(chance *rand.Rand, f api.Func, names string) {
	for to := range f.Blocks {
		b := &f.Blocks[to]
		for range max(0, chance.Intn(5)-2) {
			at := chance.Intn(len(names))
			p := api.Phi{Dst: names[at : at+1]}
			for _, from := range f.Blocks {
				if slices.Contains(from.End.To, b.Name) != (chance.Intn(20) == 0) {
					p.Ins = append(p.Ins, api.In{Block: from.Name, A: anyArg(chance, names)})
				}
			}
			b.Phis = append(b.Phis, p)
		}
	}
}

// Greater functions, against another way of asking.
func TestByChance(t *testing.T) {
	many := 0
	byChance(4000, func(_ *rand.Rand, f api.Func) {
		want := asked(f)
		hold(t, f, want)
		for _, l := range want {
			for _, names := range l {
				many += len(names)
			}
		}
	})
	if many < 50000 {
		t.Error(many)
	}
}

// What follows, of functions as chance has them.
func TestFollowsByChance(t *testing.T) {
	byChance(10000, func(_ *rand.Rand, f api.Func) { follows(t, f) })
}

// All functions of up to three blocks, with what a block may be made of.
func TestSmallFunctions(t *testing.T) {
	codes := [][]api.Instr{nil, {{Dst: "x"}}, {{Args: []api.Arg{variable("x")}}}, {{Dst: "x", Args: []api.Arg{variable("x")}}}, {{Dst: "y", Args: []api.Arg{variable("x")}}}, {{Dst: "x"}, {Args: []api.Arg{variable("y")}}}}
	for _, to := range []lists{{nil}, {{"b"}, nil}, {{"b"}, {"b"}}, {{"b", "c"}, nil, nil}, {{"b"}, {"c"}, nil}, {{"c"}, nil, {"b"}}, {{"b", "c"}, {"c"}, nil}, {{"b"}, {"c"}, {"b"}}, {{"c", "b"}, {"c"}, {"b"}}, {{"b"}, {"b", "c"}, {"c"}}, {{"b"}, {"c", "b"}, {"c", "b"}}} {
		f := api.Func{Blocks: make([]api.Block, len(to))}
		var set func(at int)
		set = func(at int) {
			if at == len(to) {
				eachPhi(f, func() { hold(t, f, asked(f)) })
				return
			}
			for _, code := range codes {
				f.Blocks[at] = api.Block{Name: "abc"[at : at+1], Code: code, End: api.Term{To: to[at]}}
				set(at + 1)
			}
		}
		set(0)
	}
}

// eachPhi calls do with no phis in f, and then with some of up to three blocks in its second and its last one.
func eachPhi(f api.Func, do func()) {
	do()
	if len(f.Blocks) == 1 {
		return
	}
	for _, at := range []int{1, len(f.Blocks) - 1} {
		b := &f.Blocks[at]
		for _, dst := range []string{"x", "y"} {
			for _, ins := range [][]api.In{{{Block: "a", A: variable("x")}}, {{Block: "b", A: variable("x")}, {Block: "a", A: variable("y")}}, {{Block: "c", A: variable("y")}, {Block: "b", A: variable("z")}, {Block: "a"}}} {
				b.Phis = []api.Phi{{Dst: dst, Ins: ins}}
				do()
				b.Phis = nil
			}
		}
	}
}
