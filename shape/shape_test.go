package shape_test

import (
	"math"
	"math/rand"
	"slices"
	"strings"
	"testing"

	"lateen/api"
	"lateen/shape"
	"lateen/syntax"
)

// kinds are those of ends, and some that are none.
var kinds = []int{api.Jump, api.Branch, api.Ret, api.Trap, 0, -1, 5, math.MaxInt, math.MinInt}

// letters answers the letters of s, as names.
func letters(s string) []string {
	var l []string
	for _, r := range s {
		l = append(l, string(r))
	}
	return l
}

// drawn answers the function of blocks that s draws: "a>bc b> c>" are three, whose names are a, b and c, and the first one's To has b and c.
func drawn(s string) api.Func {
	f := api.Func{Name: "f", Result: "int"}
	for _, w := range strings.Fields(s) {
		name, to, _ := strings.Cut(w, ">")
		end := api.Term{Kind: api.Ret, A: api.Arg{Kind: api.KInt}, To: letters(to)}
		if len(to) > 0 {
			end.Kind = min(len(to), api.Branch)
		}
		f.Blocks = append(f.Blocks, api.Block{Name: name, End: end})
	}
	return f
}

// ends answers a copy of f, all ends of which are of that kind.
func ends(f api.Func, kind int) api.Func {
	f.Blocks = slices.Clone(f.Blocks)
	for at := range f.Blocks {
		f.Blocks[at].End.Kind = kind
	}
	return f
}

// first answers a copy of f with its block at that place as the first one, the others in their order.
func first(f api.Func, at int) api.Func {
	b := f.Blocks[at]
	f.Blocks = slices.Insert(slices.Delete(slices.Clone(f.Blocks), at, at+1), 0, b)
	return f
}

// without answers a copy of f without its block at that place.
func without(f api.Func, at int) api.Func {
	f.Blocks = slices.Delete(slices.Clone(f.Blocks), at, at+1)
	return f
}

// asked is another way of asking whether a shape is right: what can be come to grows a step at a time.
func asked(f api.Func) bool {
	var names []string
	for _, b := range f.Blocks {
		if slices.Contains(names, b.Name) {
			return false
		}
		names = append(names, b.Name)
	}
	for _, b := range f.Blocks {
		for at, to := range b.End.To {
			if slices.Index(names, to) < 1 || slices.Contains(b.End.To[:at], to) {
				return false
			}
		}
	}
	come := names[:min(len(names), 1)]
	for range f.Blocks {
		var more []string
		for _, b := range f.Blocks {
			if slices.Contains(come, b.Name) {
				more = append(more, b.End.To...)
			}
		}
		come = append(slices.Clone(come), more...)
		slices.Sort(come)
		come = slices.Compact(come)
	}
	return len(names) > 0 && len(come) == len(names)
}

// lists answers all lists of up to most of these letters.
func lists(s string, most int) []string {
	l := []string{""}
	for from := 0; most > 0; most-- {
		till := len(l)
		for _, have := range l[from:till] {
			for _, r := range s {
				l = append(l, have+string(r))
			}
		}
		from = till
	}
	return l
}

// each calls do with each function of n blocks, whose names are among these letters, with each list of up to most of them and z, which no block is named.
func each(n int, s string, most int, do func(api.Func)) {
	var blocks []string
	for _, name := range letters(s) {
		for _, to := range lists(s+"z", most) {
			blocks = append(blocks, name+">"+to)
		}
	}
	all := drawn(strings.Join(blocks, " ")).Blocks
	f := api.Func{Blocks: make([]api.Block, n)}
	var set func(at int)
	set = func(at int) {
		if at == n {
			do(f)
			return
		}
		for _, b := range all {
			f.Blocks[at] = b
			set(at + 1)
		}
	}
	set(0)
}

// byChance calls do with functions of up to ten blocks as chance has them (always the same), most of which are right or nearly so.
func byChance(times int, do func(*rand.Rand, api.Func)) {
	chance := rand.New(rand.NewSource(8))
	for range times {
		names := letters("abcdefghij")[:1+chance.Intn(10)]
		f := drawn(strings.Join(names, "> ") + ">")
		lead := func(from, to int) {
			end := &f.Blocks[from].End
			if chance.Intn(20) == 0 || to > 0 && !slices.Contains(end.To, names[to]) {
				end.To = append(end.To, names[to])
			}
		}
		for to := 1; to < len(names); to++ {
			if chance.Intn(12) > 0 {
				lead(chance.Intn(to), to)
			}
		}
		for range chance.Intn(6) {
			lead(chance.Intn(len(names)), chance.Intn(len(names)))
		}
		if chance.Intn(10) == 0 {
			f.Blocks[chance.Intn(len(names))].Name = names[chance.Intn(len(names))]
		}
		mix(chance, f)
		do(chance, f)
	}
}

// rightByChance calls do with those of byChance that are right.
func rightByChance(times int, do func(*rand.Rand, api.Func)) {
	byChance(times, func(chance *rand.Rand, f api.Func) {
		if asked(f) {
			do(chance, f)
		}
	})
}

// mix brings the blocks of f behind the first one into another order.
func mix(chance *rand.Rand, f api.Func) {
	l := f.Blocks[1:]
	chance.Shuffle(len(l), func(i, j int) { l[i], l[j] = l[j], l[i] })
}

func TestRight(t *testing.T) {
	for s, want := range map[string]bool{
		"": false, "a>": true, "a>b b>": true, "a>bc b> c>": true, "a>bc b>c c>": true, "a>bc b>d c>d d>": true, "a>b b>cd c>b d>": true,
		// More than two, and one that leads to nothing, whatever is behind it.
		"a>bcdef b> c> d> e> f>": true, "a>bc b> c>d d>": true, "a>c c> b>": false,
		// Rounds that can be come to, and round one block.
		"a>b b>b": true, "a>b b>c c>b": true, "a>bc b>c c>b": true, "a>b b>bc c>bc": true, "a>b b>c c>d d>b": true,
		// Two of one name: ahead or behind, led to or not, alike or not, the first one too.
		"a> a>": false, "a>b b> a>": false, "a>b b> b>": false, "a>b b>b b>": false, "a>bc b> c> b>": false, "a>b b>c c> c>": false, "a>b b>a a>": false, "b>b b>": false, "a>bc b> b>c c>": false, "a>b b>c b> c>": false,
		// What there isn't.
		"a>b": false, "a>z": false, "a>b b>z": false, "a>bz b>": false, "a>zb b>": false, "a>bc b>": false, "a>b b>c c>bz": false, "a>z z>b b>": true,
		// The first block.
		"a>a": false, "a>ab b>": false, "a>ba b>": false, "a>b b>a": false, "a>b b>ca c>": false, "a>b b>c c>d d>a": false, "a>bc b> c>a": false,
		// One block twice.
		"a>bb b>": false, "a>bcb b> c>": false, "a>b b>cc c>": false, "a>b b>bb": false, "a>bc b> c>dd d>": false, "a>bc b>cbc c>": false,
		// What nothing leads to, first in line or last, and what only that leads to.
		"a> b>": false, "a>b b> c>": false, "a>c b> c>": false, "a>b b>b c>b": false, "a>b c>d b> d>": false, "a>b b> c>bd d>": false,
		// Rounds that can't be come to.
		"a> b>b": false, "a> b>c c>b": false, "a>b b> c>c": false, "a>b b>b c>d d>c": false, "a>b c>db d>cb b>": false, "a>b c>d d>e e>c b>": false, "a>b b>c c>d d>c e>f f>eb": false,
	} {
		f := drawn(s)
		if got := shape.Right(f); got != want {
			t.Errorf("%q: %v", s, got)
		}
		if asked(f) != want {
			t.Errorf("%q: asked another way, it isn't %v", s, want)
		}
		// What it leads to is an end's To, of whatever kind it is.
		for _, kind := range kinds {
			if got := shape.Right(ends(f, kind)); got != want {
				t.Errorf("%q with ends of the kind %d: %v", s, kind, got)
			}
		}
	}
}

// Texts of programs, whose ends have what their kinds have.
func TestRightOfTexts(t *testing.T) {
	for s, want := range map[string]bool{
		"block b0\njump b1\nblock b1\nret 1\n":        true,
		"block b0\njump b0\n":                         false,
		"block b0\nbranch x b1 b1\nblock b1\nret 1\n": false,
		"block b0\ntrap 10\n":                         true,
		"block b0\nret 1\nblock b1\ntrap 10\n":        false,
		"block b\nbranch x c d\nblock c\njump e\nblock d\ntrap 10\nblock e\nx = add x 1\nret x\n": true,
		// A name is no piece of another one, and no two differ by their case alone.
		"block b\njump b1\nblock b1\njump b11\nblock b11\njump B\nblock B\nret 1\n": true,
		"block b\njump b1\nblock b11\nret 1\n":                                      false,
		"block b\njump C\nblock c\nret 1\n":                                         false,
		// What else is named so is no block.
		"block b\njump x\n":                                            false,
		"block b\njump f\n":                                            false,
		"block b\nx = call f\nat f c 0\ntrap 10\n":                     true,
		"block b\njump c\nblock c\nphi x b 1 d 2\nret x\n":             true,
		"block b\njump c\nblock c\nphi x d 1\nret x\nblock d\nret 1\n": false,
	} {
		p, at, e := syntax.Parse("func f int\nvar x int\n" + s)
		if e != api.OK {
			t.Fatalf("line %d: %d in\n%s", at, e, s)
		}
		if got := shape.Right(p.Funcs[0]); got != want {
			t.Errorf("%v of\n%s", got, s)
		}
	}
}

// All functions of up to three blocks: of one and two with up to three names in each To, of three with up to two.
func TestRightOfAll(t *testing.T) {
	right := 0
	hold := func(f api.Func) {
		want := asked(f)
		if got := shape.Right(f); got != want {
			t.Fatalf("%v: %+v", got, f.Blocks)
		}
		if want {
			right++
		}
		// Of others nothing is told, but that it ends.
		shape.Phis(f)
	}
	each(1, "a", 3, hold)
	each(2, "ab", 3, hold)
	each(3, "abc", 2, hold)
	if right < 200 {
		t.Error(right)
	}
}

func TestRightByChance(t *testing.T) {
	right, times := 0, 60000
	byChance(times, func(_ *rand.Rand, f api.Func) {
		want := asked(f)
		if got := shape.Right(f); got != want {
			t.Fatalf("%v: %+v", got, f.Blocks)
		}
		if want {
			right++
		}
	})
	if right < times/4 || right > times*3/4 {
		t.Error(right)
	}
}

// The blocks behind the first one in each other order.
func TestRightInAnotherOrder(t *testing.T) {
	for _, s := range []string{"a>bcd b>e c>e d>b e>", "a>b b>c c>d d>e e>b", "a>bc b>bd c>e d> e>"} {
		f, orders := drawn(s), 0
		var swap func(from int)
		swap = func(from int) {
			if from == len(f.Blocks) {
				orders++
				if !shape.Right(f) {
					t.Errorf("isn't right any more: %+v", f.Blocks)
				}
				return
			}
			for at := from; at < len(f.Blocks); at++ {
				f.Blocks[from], f.Blocks[at] = f.Blocks[at], f.Blocks[from]
				swap(from + 1)
				f.Blocks[from], f.Blocks[at] = f.Blocks[at], f.Blocks[from]
			}
		}
		swap(1)
		if orders != 24 {
			t.Error(orders)
		}
	}
}

// Right ones in another order, with another first block, with one left out, and with one more.
func TestRightOfChanged(t *testing.T) {
	changed := 0
	rightByChance(8000, func(chance *rand.Rand, f api.Func) {
		mix(chance, f)
		if !shape.Right(f) {
			t.Fatalf("isn't right any more: %+v", f.Blocks)
		}
		for at := 1; at < len(f.Blocks); at++ {
			changed++
			if shape.Right(without(f, at)) {
				t.Fatalf("right without the block %d: %+v", at, f.Blocks)
			}
			if shape.Right(first(f, at)) {
				t.Fatalf("right from the block %d: %+v", at, f.Blocks)
			}
		}
		oneMore(t, f)
	})
	if changed < 10000 {
		t.Error(changed)
	}
}

// oneMore holds what f, whose shape is right, is with one block more.
func oneMore(t *testing.T, f api.Func) {
	for _, name := range []string{"x", f.Blocks[0].Name, f.Blocks[len(f.Blocks)-1].Name} {
		for at := 1; at <= len(f.Blocks); at++ {
			g := f
			g.Blocks = slices.Insert(slices.Clone(f.Blocks), at, api.Block{Name: name, End: api.Term{Kind: api.Trap, N: 10}})
			if shape.Right(g) {
				t.Fatalf("right with %s, to which nothing leads, or of which there are two: %+v", name, g.Blocks)
			}
			end := &g.Blocks[at-1].End
			end.To = append(slices.Clone(end.To), name)
			if want := name == "x"; shape.Right(g) != want {
				t.Fatalf("isn't %v with %s, which the block ahead of it leads to: %+v", want, name, g.Blocks)
			}
		}
	}
}

// chain answers n blocks, each of which leads to the next one; their names are their places.
func chain(n int) api.Func {
	f := api.Func{Blocks: make([]api.Block, n)}
	for at := range f.Blocks {
		f.Blocks[at].Name = number(at)
		f.Blocks[at].End = api.Term{Kind: api.Jump, To: []string{number(at + 1)}}
	}
	f.Blocks[n-1].End = api.Term{Kind: api.Ret}
	return f
}

// number answers a name for each number.
func number(n int) string {
	return string([]rune{'n', rune('a' + n%26), rune('a' + n/26%26), rune('a' + n/26/26%26), rune('a' + n/26/26/26)})
}

// A long way, forward, backward and to and fro; with a step of it that isn't there; and one that goes round.
func TestRightOfALongWay(t *testing.T) {
	const n = 1 << 16
	forward := func(api.Func) {}
	backward := func(f api.Func) { slices.Reverse(f.Blocks[1:]) }
	mixed := func(f api.Func) { mix(rand.New(rand.NewSource(8)), f) }
	for _, order := range []func(api.Func){forward, backward, mixed} {
		for _, step := range []struct {
			from int
			to   []string
			want bool
		}{
			{n - 1, nil, true}, {n - 1, []string{number(1)}, true}, {n - 1, []string{number(n - 1)}, true}, {n / 2, []string{number(n/2 + 1), number(n / 2)}, true},
			{n - 1, []string{number(0)}, false}, {n - 1, []string{number(n)}, false}, {0, nil, false}, {0, []string{number(2)}, false}, {n / 2, []string{number(n / 2)}, false}, {n - 2, nil, false}, {n - 2, []string{number(1)}, false},
		} {
			f := chain(n)
			f.Blocks[step.from].End.To = step.to
			order(f)
			if shape.Right(f) != step.want {
				t.Errorf("isn't %v, with a step from %d to %v", step.want, step.from, step.to)
			}
		}
	}
}

// As many names in one end as no text has: what is told is told soon.
func TestRightOfALongEnd(t *testing.T) {
	f := chain(1 << 16)
	var all []string
	for at := 1; at < len(f.Blocks); at++ {
		all = append(all, f.Blocks[at].Name)
		f.Blocks[at].End.To = nil
	}
	for _, want := range []struct {
		to    []string
		right bool
	}{{all, true}, {all[1:], false}, {append(slices.Clone(all), all[0]), false}, {append(slices.Clone(all), "z"), false}} {
		f.Blocks[0].End.To = want.to
		if shape.Right(f) != want.right {
			t.Errorf("isn't %v, with %d names", want.right, len(want.to))
		}
	}
}

// Names that no text has are names like all others.
func TestRightOfOddNames(t *testing.T) {
	odd := []string{"", " ", "a ", " a", "a", "A", "\x00", "a\x00", "\xff", "0", "#0", "null", "a\nb", strings.Repeat("a", 1<<16)}
	f := api.Func{Blocks: []api.Block{{Name: "first", End: api.Term{To: odd}}}}
	if shape.Right(f) {
		t.Error("right, without the blocks")
	}
	for _, name := range odd {
		f.Blocks = append(f.Blocks, api.Block{Name: name})
	}
	if !shape.Right(f) {
		t.Error("isn't right")
	}
	for at, name := range odd {
		if got, ok := shape.Place(f, name); got != at+1 || !ok {
			t.Errorf("%q: %d %v", name, got, ok)
		}
		if shape.Right(without(f, at+1)) {
			t.Errorf("right without %q", name)
		}
		if g := first(f, at+1); shape.Right(g) {
			t.Errorf("right from %q", name)
		}
	}
	// A block without a name is one all the same, be it the first one.
	for s, want := range map[string]bool{"> b>": false, ">b b>": true, "a> >": false, "> >": false} {
		if got := shape.Right(drawn(s)); got != want {
			t.Errorf("%q: %v", s, got)
		}
	}
	g := drawn("a>b b>")
	g.Blocks[0].End.To = []string{""}
	if shape.Right(g) {
		t.Error("right, with an end that names nothing")
	}
}

func TestPlace(t *testing.T) {
	for s, want := range map[string]map[string]int{
		"":                      nil,
		"a>":                    {"a": 0},
		"a>bz b>c c>":           {"a": 0, "b": 1, "c": 2},
		"a> a>":                 {"a": 0},
		"a>b b> c> b> c> a> d>": {"a": 0, "b": 1, "c": 2, "d": 6},
		"b> b> a> b>":           {"b": 0, "a": 2},
		"aa> ab> a> b>":         {"aa": 0, "ab": 1, "a": 2, "b": 3},
	} {
		f := drawn(s)
		for _, name := range []string{"a", "b", "c", "d", "z", "", "A", "aa", "ab", "a ", "bb", "f", "int", "\x00"} {
			at, ok := want[name]
			if got, is := shape.Place(f, name); got != at || is != ok {
				t.Errorf("%q: %s is at %d %v", s, name, got, is)
			}
		}
	}
	if at, ok := shape.Place(api.Func{Blocks: []api.Block{}}, ""); at != 0 || ok {
		t.Error(at, ok)
	}
	long := chain(1 << 12)
	for at, b := range long.Blocks {
		if got, ok := shape.Place(long, b.Name); got != at || !ok {
			t.Fatalf("%d is at %d %v", at, got, ok)
		}
	}
}

// What else has a name is no block.
func TestPlaceOfWhatIsNoBlock(t *testing.T) {
	p, _, e := syntax.Parse("class c\nglobal g int\nextern e 1\nfunc f int\nparam k int\nvar x int\nblock b\nphi x u 1\nx = call f 1\nat f v 0 w 1\nobj c\nbranch x y z\nfunc h int\nblock d\nret 1\n")
	if e != api.OK {
		t.Fatal(e)
	}
	for _, name := range letters("cgefkxuvwyzhd") {
		if at, ok := shape.Place(p.Funcs[0], name); at != 0 || ok {
			t.Errorf("%s is at %d %v", name, at, ok)
		}
	}
	if at, ok := shape.Place(p.Funcs[0], "b"); at != 0 || !ok {
		t.Error(at, ok)
	}
}
