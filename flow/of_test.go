package flow_test

import (
	"math"
	"math/rand"
	"reflect"
	"slices"
	"strings"
	"testing"

	"lateen/api"
	"lateen/flow"
	"lateen/shape"
	"lateen/syntax"
)

// drawn answers the function of blocks that s draws: "a>bc b> c>" are three, whose names are a, b and c, and the first one's To has b and c.
func drawn(s string) api.Func {
	f := api.Func{Name: "f", Result: "int"}
	for _, w := range strings.Fields(s) {
		name, to, _ := strings.Cut(w, ">")
		b := api.Block{Name: name, End: api.Term{Kind: api.Ret, A: api.Arg{Kind: api.KInt}}}
		for _, r := range to {
			b.End.Kind = api.Jump
			b.End.To = append(b.End.To, string(r))
		}
		f.Blocks = append(f.Blocks, b)
	}
	return f
}

// number answers a name for each number.
func number(n int) string {
	return string([]rune{'n', rune('a' + n%26), rune('a' + n/26%26), rune('a' + n/26/26%26), rune('a' + n/26/26/26)})
}

// made answers the function whose graph g is, with names that tell nothing of the blocks' places.
func made(chance *rand.Rand, g graph) api.Func {
	name := chance.Perm(len(g))
	f := api.Func{Blocks: make([]api.Block, len(g))}
	for at, l := range g {
		b := &f.Blocks[at]
		b.Name = number(name[at])
		b.End.Kind = []int{api.Jump, api.Branch, api.Ret, api.Trap, 0, -1}[chance.Intn(6)]
		for _, to := range l {
			b.End.To = append(b.End.To, number(name[to]))
		}
	}
	return f
}

func TestOf(t *testing.T) {
	for s, want := range map[string]graph{
		"a>":                     {nil},
		"a>b b>":                 {{1}, nil},
		"a>bc b>c c>":            {{1, 2}, {2}, nil},
		"a>cb b>c c>":            {{2, 1}, {2}, nil},
		"a>cb b>d c>d d>":        {{2, 1}, {3}, {3}, nil},
		"a>b b>bc c>bc":          {{1}, {1, 2}, {1, 2}},
		"a>b b>cb c>cb":          {{1}, {2, 1}, {2, 1}},
		"a>dcb d> b>e e>cd c>d":  {{1, 4, 2}, nil, {3}, {4, 1}, {1}},
		"a>edcb b> c> d> e>bcde": {{4, 3, 2, 1}, nil, nil, nil, {1, 2, 3, 4}},
		"z>a a>":                 {{1}, nil},
	} {
		f := drawn(s)
		if !shape.Right(f) {
			t.Errorf("%q: the shape isn't right", s)
		}
		// It is an end's To that is told, of whatever kind it is, and however many that has.
		for _, kind := range []int{api.Jump, api.Branch, api.Ret, api.Trap, 0, -1, 5, math.MaxInt, math.MinInt} {
			for at := range f.Blocks {
				f.Blocks[at].End.Kind = kind
			}
			if g := flow.Of(f); !same(g, want) {
				t.Errorf("%q with ends of the kind %d: %v", s, kind, g)
			}
		}
	}
}

func TestOfTexts(t *testing.T) {
	for s, want := range map[string]graph{
		"block b0\nret 1\n":                    {nil},
		"block b0\ntrap 10\n":                  {nil},
		"block b0\njump b1\nblock b1\nret 1\n": {{1}, nil},
		"block b\nbranch x c d\nblock c\njump e\nblock d\ntrap 10\nblock e\nret x\n":                             {{1, 2}, {3}, nil, nil},
		"block b\nbranch x c d\nblock e\nret x\nblock d\ntrap 10\nblock c\njump e\n":                             {{3, 2}, nil, nil, {1}},
		"block b\njump b1\nblock b1\nbranch x B b11\nblock b11\nret 1\nblock B\njump b1\n":                       {{1}, {3, 2}, nil, {1}},
		"block b\njump c\nblock c\nphi x b 1 d 2\nx = call f x\nbranch x d e\nblock e\nret x\nblock d\njump c\n": {{1}, {3, 2}, nil, {1}},
	} {
		p, at, e := syntax.Parse("func f int\nparam y int\nvar x int\n" + s)
		if e != api.OK {
			t.Fatalf("line %d: %d in\n%s", at, e, s)
		}
		if g := flow.Of(p.Funcs[0]); !same(g, want) {
			t.Errorf("%v of\n%s", g, s)
		}
	}
}

// right answers a graph of up to twelve points as a function whose shape is right has it.
func right(chance *rand.Rand) graph {
	g := make(graph, 1+chance.Intn(12))
	place := rising(0, len(g))
	chance.Shuffle(len(g)-1, func(i, j int) { place[i+1], place[j+1] = place[j+1], place[i+1] })
	lead := func(from, to int) {
		if to > 0 && !slices.Contains(g[from], to) {
			g[from] = append(g[from], to)
		}
	}
	for at := 1; at < len(g); at++ {
		lead(place[chance.Intn(at)], place[at])
	}
	for range chance.Intn(8) {
		lead(chance.Intn(len(g)), chance.Intn(len(g)))
	}
	for _, l := range g {
		chance.Shuffle(len(l), func(i, j int) { l[i], l[j] = l[j], l[i] })
	}
	return g
}

func TestOfByChance(t *testing.T) {
	chance := rand.New(rand.NewSource(9))
	for range 10000 {
		want := right(chance)
		f := made(chance, want)
		if !shape.Right(f) {
			t.Fatalf("the shape of %v isn't right", want)
		}
		g := flow.Of(f)
		if !same(g, want) {
			t.Fatalf("%v, not %v", g, want)
		}
		for at, b := range f.Blocks {
			for i, name := range b.End.To {
				if to, ok := shape.Place(f, name); !ok || g[at][i] != to {
					t.Fatalf("%v: %s is at %d", g, name, to)
				}
			}
		}
	}
}

// Names that no text has are names like all others.
func TestOfOddNames(t *testing.T) {
	odd := []string{"", " ", "a ", " a", "a", "A", "\x00", "a\x00", "\xff", "0", "-1", "#0", "null", "a\nb", strings.Repeat("a", 1<<16)}
	f := api.Func{Blocks: []api.Block{{Name: "first", End: api.Term{To: odd}}}}
	want := graph{rising(1, len(odd)+1)}
	for at, name := range odd {
		f.Blocks = append(f.Blocks, api.Block{Name: name, End: api.Term{To: []string{odd[len(odd)-1-at]}}})
		want = append(want, []int{len(odd) - at})
	}
	if g := flow.Of(f); !same(g, want) {
		t.Error(g)
	}
}

// A function of very many blocks: all is told soon.
func TestOfGreatFunctions(t *testing.T) {
	const n = 1 << 16
	chance := rand.New(rand.NewSource(9))
	all := rising(1, n)
	forward := great(n, func(at int) []int { return rising(at+1, min(at+2, n)) })
	backward := great(n, func(at int) []int { return []int{(at + n - 1) % n} })
	backward[1] = nil
	toAll := great(n, func(int) []int { return nil })
	toAll[0] = all
	toOne := great(n, func(int) []int { return []int{1} })
	for name, want := range map[string]graph{
		"forward": forward, "backward": backward, "one to all": toAll, "all to one": toOne,
	} {
		if !same(flow.Of(made(chance, want)), want) {
			t.Errorf("%s: another graph", name)
		}
	}
}

// Of functions whose shape isn't right nothing is promised, but that calls end.
func TestOfWrongShapes(t *testing.T) {
	for _, s := range []string{"", "a>z", "a>a", "a> a>", "a>b b>a", "a>b b> b>", "a>bb b>", "a> b>c", "a>zbz b>zz", "> >", "a>b b>b a>b c>zc"} {
		g := flow.Of(drawn(s))
		flow.Order(g)
		flow.Come(g)
		flow.Preds(g)
	}
}

// roomy answers a copy of l with spare room, in which there is one more item.
func roomy[T any](l []T, spare T) []T {
	return append(slices.Clone(l), spare)[:len(l)]
}

// whole answers the items of l, its spare room's too, made anew by one.
func whole[T any](l []T, one func(T) T) []T {
	var all []T
	for _, x := range l[:cap(l)] {
		all = append(all, one(x))
	}
	return all
}

// itself answers what it is given.
func itself[T any](x T) T { return x }

// What is handed in stays as it was, its spare room too; what stands in spare room doesn't count.
func TestWhatIsHandedInStays(t *testing.T) {
	row := func(l []int) []int { return whole(l, itself) }
	for spare := -1; spare < 5; spare++ {
		for _, g := range []graph{{{1, 2}, {3}, {3}, nil}, {{0, 0}, {1}, {3}, {2}}, {{2, 5, -1}, {1, 0}, {1, 3, 1}, {2}}} {
			bare := slices.Clone(g)
			for at := range g {
				g[at] = roomy(g[at], spare)
			}
			g = roomy(g, []int{spare, 0, 1})
			before := whole(g, row)
			hold(t, g)
			if !slices.Equal(flow.Order(g), flow.Order(bare)) || !slices.Equal(flow.Come(g), flow.Come(bare)) || !same(flow.Preds(g), flow.Preds(bare)) {
				t.Errorf("%v: something else with %d in spare room", g, spare)
			}
			if after := whole(g, row); !reflect.DeepEqual(before, after) {
				t.Errorf("it is changed:\n%v\n%v", before, after)
			}
		}
	}
}

func TestFunctionsStay(t *testing.T) {
	block := func(b api.Block) api.Block {
		b.End.To = whole(b.End.To, strings.Clone)
		return b
	}
	for _, spare := range []string{"a", "b", "c", "z"} {
		f := drawn("a>cb b>c c>b")
		for at := range f.Blocks {
			f.Blocks[at].End.To = roomy(f.Blocks[at].End.To, spare)
		}
		f.Blocks = roomy(f.Blocks, api.Block{Name: spare, End: api.Term{To: []string{spare}}})
		before := whole(f.Blocks, block)
		if g := flow.Of(f); !same(g, graph{{2, 1}, {2}, {1}}) {
			t.Errorf("%v with %s in spare room", g, spare)
		}
		if after := whole(f.Blocks, block); !reflect.DeepEqual(before, after) {
			t.Errorf("it is changed:\n%+v\n%+v", before, after)
		}
	}
}

// apart tells whether no two of these lists share memory: what is laid into one, up to the end of its spare room, isn't seen in another one.
func apart(lists ...[]int) bool {
	for n, l := range lists {
		l = l[:cap(l)]
		for at := range l {
			l[at] = n
		}
	}
	for n, l := range lists {
		for _, m := range l[:cap(l)] {
			if m != n {
				return false
			}
		}
	}
	return true
}

// What is answered is new memory: no list of it is one that was handed in, or another one that was answered, now or ahead.
func TestAnswersAreNewMemory(t *testing.T) {
	byChance(300, 4, func(_ *rand.Rand, g graph) {
		lists := [][]int{flow.Order(g), flow.Order(g)}
		lists = append(lists, flow.Preds(g)...)
		lists = append(lists, flow.Preds(g)...)
		if !apart(append(lists, g...)...) {
			t.Fatalf("memory is shared, of %d points", len(g))
		}
	})
	chance := rand.New(rand.NewSource(9))
	for range 300 {
		f := made(chance, right(chance))
		if !apart(append(flow.Of(f), flow.Of(f)...)...) {
			t.Fatalf("memory is shared: %+v", f.Blocks)
		}
	}
}

// What is laid into an answer is seen neither in what was handed in nor in the next answer.
func TestAnswersAreTheCallers(t *testing.T) {
	g, f := graph{{1, 2}, {2, 1}, nil, {0}}, drawn("a>bc b>cb c>")
	for range 3 {
		order, come, from, of := flow.Order(g), flow.Come(g), flow.Preds(g), flow.Of(f)
		if !slices.Equal(order, []int{0, 1, 2}) || !slices.Equal(come, []bool{true, true, true, false}) || !same(from, graph{{3}, {0, 1}, {0, 1}, nil}) || !same(of, graph{{1, 2}, {2, 1}, nil}) {
			t.Fatal(order, come, from, of)
		}
		clear(order[:cap(order)])
		clear(come[:cap(come)])
		clear(from[:cap(from)])
		clear(of[:cap(of)])
	}
	if !same(g, graph{{1, 2}, {2, 1}, nil, {0}}) {
		t.Error(g)
	}
}

// Nil and empty lists are one.
func TestNilAndEmptyLists(t *testing.T) {
	for _, g := range []graph{nil, {}} {
		if len(flow.Order(g))+len(flow.Come(g))+len(flow.Preds(g)) > 0 {
			t.Error("something of no points")
		}
	}
	for _, blocks := range [][]api.Block{nil, {}} {
		if g := flow.Of(api.Func{Blocks: blocks}); len(g) > 0 {
			t.Error(g)
		}
	}
	g := graph{{1}, {}, {}}
	if !slices.Equal(flow.Order(g), []int{0, 1}) || !slices.Equal(flow.Come(g), []bool{true, true, false}) || !same(flow.Preds(g), graph{nil, {0}, nil}) {
		t.Error("empty lists are others than nil")
	}
	f := drawn("a>b b>")
	f.Blocks[1].End.To = []string{}
	if g := flow.Of(f); !same(g, graph{{1}, nil}) {
		t.Error(g)
	}
}
