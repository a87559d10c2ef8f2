package shape_test

import (
	"math"
	"math/rand"
	"reflect"
	"slices"
	"strings"
	"testing"

	"lateen/api"
	"lateen/shape"
	"lateen/syntax"
)

// phi answers a phi that is something from each of these blocks.
func phi(blocks string) api.Phi {
	p := api.Phi{Dst: "x"}
	for _, name := range letters(blocks) {
		p.Ins = append(p.Ins, api.In{Block: name, A: api.Arg{Kind: api.KInt}})
	}
	return p
}

// with answers a copy of f whose block of that name has phis, each from the blocks that are named.
func with(f api.Func, name string, phis ...string) api.Func {
	f.Blocks = slices.Clone(f.Blocks)
	at := slices.IndexFunc(f.Blocks, func(b api.Block) bool { return b.Name == name })
	for _, blocks := range phis {
		f.Blocks[at].Phis = append(f.Blocks[at].Phis, phi(blocks))
	}
	return f
}

// leaders answers the names of the blocks that lead to the one of that name, rising.
func leaders(f api.Func, name string) string {
	var l []string
	for _, b := range f.Blocks {
		if slices.Contains(b.End.To, name) {
			l = append(l, b.Name)
		}
	}
	slices.Sort(l)
	return strings.Join(l, "")
}

// rising answers the letters of s, rising.
func rising(s string) string {
	l := letters(s)
	slices.Sort(l)
	return strings.Join(l, "")
}

func TestPhis(t *testing.T) {
	for s, want := range map[string]struct{ right, wrong string }{
		// The blocks that lead to the last one drawn, in any order; and others, one too few, too many, or twice.
		"a>bc b>c c>":                         {"ab ba", "a b aa bb aab abb aba abc abz az zb ac cb c z caba"},
		"a>b b>":                              {"a", "b z aa ab az ba"},
		"a>b b>b":                             {"ab ba", "a b aa bb abb z"},
		"a>cb c>b b>c":                        {"ac ca", "a c ab bc cc aac abc"},
		"a>cd c>e d>e e>":                     {"cd dc", "a c d ac ad cc dd cdc dcc acd cda cde e"},
		"a>bce b>e c>e e>":                    {"abc acb bac bca cab cba", "a ab bc abcb abca aab abb bbb aaa abe abz abce"},
		"a>bcd b>c c>d d>bcd":                 {"acd adc cad cda dac dca", "a c d ac ad cd abc bcd abcd accd acc"},
		"a>bcdefg b>h c>h d>h e>h f>h g>h h>": {"bcdefg gfedcb dgbfce", "bcdef cdefg bcdefh bcdeff bbcdefg abcdefg bcdefgh bcdefgg"},
		// To is what counts, whatever the kind of the end.
		"a>bcde b> c> d>f e>df f>": {"de ed", "d e dd def fe"},
	} {
		f := drawn(s)
		last := f.Blocks[len(f.Blocks)-1].Name
		if !shape.Phis(f) {
			t.Errorf("%q: not right without phis", s)
		}
		for _, kind := range kinds {
			f := ends(f, kind)
			if !shape.Right(f) {
				t.Fatalf("%q isn't right", s)
			}
			right := strings.Fields(want.right)
			for _, blocks := range right {
				if !shape.Phis(with(f, last, blocks)) {
					t.Errorf("%q: %s isn't right", s, blocks)
				}
			}
			if !shape.Phis(with(f, last, append(right, right...)...)) {
				t.Errorf("%q: all of %s aren't right", s, want.right)
			}
			// Without any In, and each wrong one alone, ahead of right ones, and behind them.
			for _, blocks := range append(strings.Fields(want.wrong), "") {
				for _, phis := range [][]string{{blocks}, {blocks, right[0]}, {right[0], blocks}, {right[0], blocks, right[0]}} {
					if shape.Phis(with(f, last, phis...)) {
						t.Errorf("%q: %q are right", s, phis)
					}
				}
			}
		}
	}
}

// The first block has no phi, not even one that is from nowhere.
func TestPhisOfTheFirstBlock(t *testing.T) {
	for _, s := range []string{"a>", "a>b b>", "a>b b>b", "a>bc b>c c>"} {
		f := drawn(s)
		for _, blocks := range []string{"", "a", "b", "ab", "z"} {
			if shape.Phis(with(f, "a", blocks)) {
				t.Errorf("%q: %q is right", s, blocks)
			}
			if len(f.Blocks) > 1 && shape.Phis(with(with(f, "a", blocks), "b", leaders(f, "b"))) {
				t.Errorf("%q: %q is right", s, blocks)
			}
		}
	}
	if shape.Phis(api.Func{Blocks: []api.Block{{Name: "a", Phis: []api.Phi{{}}}}}) {
		t.Error("a phi of nothing is right")
	}
}

// Phis of several blocks: each block's are its own.
func TestPhisOfSeveralBlocks(t *testing.T) {
	f := drawn("a>bc b>d c>db d>e e>b")
	right := map[string]string{"b": "ace", "c": "a", "d": "bc", "e": "d"}
	all := f
	for name, blocks := range right {
		all = with(all, name, blocks, blocks, blocks)
	}
	if !shape.Right(f) || !shape.Phis(all) {
		t.Error("not right")
	}
	for name, blocks := range right {
		if !shape.Phis(with(f, name, blocks)) {
			t.Errorf("%s of %s isn't right", blocks, name)
		}
		for other, these := range right {
			if other != name && shape.Phis(with(all, name, these)) {
				t.Errorf("%s of %s is right", these, name)
			}
		}
	}
}

// All right shapes of up to three blocks, each block with each phi of up to four Ins of these and of z, which there isn't.
func TestPhisOfAll(t *testing.T) {
	right := 0
	hold := func(f api.Func) {
		if !asked(f) {
			return
		}
		for at, b := range f.Blocks {
			from := leaders(f, b.Name)
			for _, blocks := range lists("abcz", 4) {
				want := at > 0 && rising(blocks) == from
				if got := shape.Phis(with(f, b.Name, blocks)); got != want {
					t.Fatalf("%v of %s in %s: %+v", got, blocks, b.Name, f.Blocks)
				}
				if want {
					right++
				}
			}
		}
	}
	each(1, "a", 2, hold)
	each(2, "ab", 2, hold)
	each(3, "abc", 2, hold)
	if right < 500 {
		t.Error(right)
	}
}

// Right phis in right shapes as chance has them, then with one In less, more, doubled or of another block; and in another order of blocks.
func TestPhisByChance(t *testing.T) {
	changed := 0
	rightByChance(6000, func(chance *rand.Rand, f api.Func) {
		for at := 1; at < len(f.Blocks); at++ {
			for range chance.Intn(3) {
				p := phi(leaders(f, f.Blocks[at].Name))
				chance.Shuffle(len(p.Ins), func(i, j int) { p.Ins[i], p.Ins[j] = p.Ins[j], p.Ins[i] })
				f.Blocks[at].Phis = append(f.Blocks[at].Phis, p)
			}
		}
		mix(chance, f)
		if !shape.Phis(f) || !shape.Right(f) {
			t.Fatalf("aren't right: %+v", f.Blocks)
		}
		for _, b := range f.Blocks {
			for at := range b.Phis {
				changed++
				wrong(t, f, &b.Phis[at])
			}
		}
	})
	if changed < 10000 {
		t.Error(changed)
	}
}

// wrong holds that the phis of f aren't right, if p, one of them, is changed.
func wrong(t *testing.T, f api.Func, p *api.Phi) {
	ins := p.Ins
	hold := func(changed []api.In) {
		p.Ins = changed
		if shape.Phis(f) {
			t.Fatalf("are right: %+v", f.Blocks)
		}
		p.Ins = ins
	}
	for at := range ins {
		hold(slices.Delete(slices.Clone(ins), at, at+1))
		hold(slices.Insert(slices.Clone(ins), 0, ins[at]))
		for _, b := range f.Blocks {
			if b.Name != ins[at].Block {
				other := slices.Clone(ins)
				other[at].Block = b.Name
				hold(other)
			}
		}
	}
	for _, b := range f.Blocks {
		hold(append(slices.Clone(ins), api.In{Block: b.Name}))
	}
	hold(nil)
}

// What a phi sets, and what it is from a block, isn't asked for; nor what instructions and ends have.
func TestPhisOfWhatIsNotAsked(t *testing.T) {
	f := drawn("a>bc b>c c>")
	args := []api.Arg{{}, {Kind: api.KVar, S: "y"}, {Kind: api.KVar}, {Kind: api.KObj, N: 1 << 40}, {Kind: -1}, {Kind: math.MaxInt, S: "a", N: -1}}
	for _, a := range args {
		f.Blocks[0].End.A, f.Blocks[1].End.N = a, a.N
		f.Blocks[1].Code = []api.Instr{{Op: a.Kind, Dst: a.S, Args: args, Frames: []api.Frame{{Func: "f", Block: "z", At: -1}}}}
		for _, dst := range []string{"", "a", "x"} {
			for ins, want := range map[string]bool{"ab": true, "ba": true, "b": false, "aa": false, "ac": false} {
				p := phi(ins)
				p.Dst, p.Ins[0].A = dst, a
				f.Blocks[2].Phis = []api.Phi{p, p}
				if !shape.Right(f) || shape.Phis(f) != want {
					t.Errorf("%+v isn't %v", p, want)
				}
			}
		}
	}
}

// Texts of programs.
func TestPhisOfTexts(t *testing.T) {
	for s, want := range map[string]bool{
		"block b0\nret k\n": true,
		"block b0\njump b1\nblock b1\nphi x b0 k b1 y\nphi z b1 1 b0 2\ny = add x z\nbranch y b1 b2\nblock b2\nphi u b1 y\nret u\n": true,
		"block b0\njump b1\nblock b1\nphi x b0 k b1 y\nphi z b1 1\ny = add x z\nbranch y b1 b2\nblock b2\nphi u b1 y\nret u\n":      false,
		"block b0\njump b1\nblock b1\nphi x b0 k b1 y\nphi z b1 1 b0 2\ny = add x z\nbranch y b1 b2\nblock b2\nphi u b2 y\nret u\n": false,
		"block b0\nphi x b0 k\njump b1\nblock b1\nret x\n":                                                                          false,
		// A name is no piece of another one.
		"block b\nbranch k b1 b2\nblock b1\njump b11\nblock b2\njump b11\nblock b11\nphi x b1 1 b2 2\nret x\n":  true,
		"block b\nbranch k b1 b2\nblock b1\njump b11\nblock b2\njump b11\nblock b11\nphi x b 1 b2 2\nret x\n":   false,
		"block b\nbranch k b1 b2\nblock b1\njump b11\nblock b2\njump b11\nblock b11\nphi x b11 1 b2 2\nret x\n": false,
		"block b\nbranch k b1 b2\nblock b1\njump b11\nblock b2\njump b11\nblock b11\nphi x B1 1 b2 2\nret x\n":  false,
	} {
		p, at, e := syntax.Parse("ssa\nfunc f int\nparam k int\n" + s)
		if e != api.OK {
			t.Fatalf("line %d: %d in\n%s", at, e, s)
		}
		if !shape.Right(p.Funcs[0]) || shape.Phis(p.Funcs[0]) != want {
			t.Errorf("isn't %v:\n%s", want, s)
		}
	}
}

// As many Ins, and phis, as no text has: what is told is told soon.
func TestPhisOfMany(t *testing.T) {
	const n = 1 << 16
	f := chain(n + 2)
	var ins []api.In
	last := f.Blocks[n+1].Name
	for at, b := range f.Blocks[:n+1] {
		end := &f.Blocks[at].End
		if at < n {
			end.To = append(end.To, last)
		}
		ins = append(ins, api.In{Block: b.Name})
	}
	slices.Reverse(ins)
	hold := func(want bool, phis ...api.Phi) {
		t.Helper()
		f.Blocks[n+1].Phis = phis
		if shape.Phis(f) != want {
			t.Errorf("isn't %v", want)
		}
	}
	hold(true, api.Phi{Ins: ins}, api.Phi{Ins: ins})
	hold(false, api.Phi{Ins: ins}, api.Phi{Ins: ins[1:]})
	hold(false, api.Phi{Ins: append(slices.Clone(ins[1:]), ins[1])})
	hold(false, api.Phi{Ins: append(slices.Clone(ins), ins[0])})

	g := with(drawn("a>bc b>c c>"), "c", slices.Repeat([]string{"ab", "ba"}, n)...)
	if !shape.Phis(g) {
		t.Error("aren't right")
	}
	g.Blocks[2].Phis[2*n-1] = phi("aa")
	if shape.Phis(g) {
		t.Error("are right")
	}
}

// roomy answers a copy of l with spare room, in which there is one more item.
func roomy[T any](l []T, spare T) []T {
	return append(slices.Clone(l), spare)[:len(l)]
}

// whole answers the items of l, its spare room's too, made anew by one.
func whole[T any](l []T, one func(T) T) []T {
	var all []T
	for _, x := range l[:cap(l)] {
		all = append(all, one(x))
	}
	return all
}

func wholePhi(p api.Phi) api.Phi {
	p.Ins = whole(p.Ins, func(in api.In) api.In { return in })
	return p
}

func wholeBlock(b api.Block) api.Block {
	b.Phis = whole(b.Phis, wholePhi)
	b.End.To = whole(b.End.To, strings.Clone)
	return b
}

// What is handed in stays as it was, its spare room too; what stands in spare room doesn't count.
func TestWhatIsHandedInStays(t *testing.T) {
	for _, spare := range letters("abcdz") {
		f := with(with(drawn("a>bc b>cd c>b d>"), "b", "ac", "ca"), "c", "ab", "ba")
		for at := range f.Blocks {
			b := &f.Blocks[at]
			for i := range b.Phis {
				b.Phis[i].Ins = roomy(b.Phis[i].Ins, api.In{Block: spare})
			}
			b.Phis = roomy(b.Phis, phi(spare))
			b.End.To = roomy(b.End.To, spare)
		}
		f.Blocks = roomy(f.Blocks, api.Block{Name: spare, End: api.Term{To: letters(spare)}})
		before := whole(f.Blocks, wholeBlock)
		if !shape.Right(f) || !shape.Phis(f) {
			t.Errorf("not right with %s in spare room", spare)
		}
		if at, ok := shape.Place(f, spare); ok != (spare != "z") || ok && f.Blocks[at].Name != spare || !ok && at != 0 {
			t.Errorf("%s is at %d %v", spare, at, ok)
		}
		if after := whole(f.Blocks, wholeBlock); !reflect.DeepEqual(before, after) {
			t.Errorf("it is changed:\n%+v\n%+v", before, after)
		}
	}
}

// Nil and empty lists are one.
func TestNilAndEmptyLists(t *testing.T) {
	if shape.Right(api.Func{}) || shape.Right(api.Func{Blocks: []api.Block{}}) {
		t.Error("right without a block")
	}
	f := drawn("a>b b>")
	f.Blocks[0].Phis, f.Blocks[1].Phis, f.Blocks[1].End.To = []api.Phi{}, []api.Phi{}, []string{}
	if !shape.Right(f) || !shape.Phis(f) {
		t.Error("not right")
	}
	for _, ins := range [][]api.In{nil, {}} {
		f.Blocks[1].Phis = []api.Phi{{Dst: "x", Ins: ins}}
		if !shape.Right(f) || shape.Phis(f) {
			t.Error("a phi that is from nowhere is right")
		}
	}
}

// What is answered hangs on what is handed in alone: asked again, among others, it is the same.
func TestNothingIsKept(t *testing.T) {
	right := with(drawn("a>bc b>c c>"), "c", "ab")
	other := with(drawn("c>b b>a a>a"), "a", "ab", "z")
	for range 100 {
		at, ok := shape.Place(right, "b")
		from, is := shape.Place(other, "c")
		if !shape.Right(right) || !shape.Phis(right) || !shape.Right(other) || shape.Phis(other) || at != 1 || !ok || from != 0 || !is {
			t.Fatal("another time it is something else")
		}
	}
}
