package dom_test

import (
	"math"
	"math/rand"
	"slices"
	"testing"

	"lateen/dom"
	"lateen/flow"
)

// graph is, for each point, the list of those to which it leads.
type graph = [][]int

// same tells whether two lists of lists are the same, nil and empty ones being one.
func same(a, b [][]int) bool {
	return slices.EqualFunc(a, b, slices.Equal[[]int])
}

// noPoint are numbers that are no points' of any graph here.
var noPoint = []int{-1, -2, math.MinInt, math.MaxInt, math.MinInt32, math.MaxInt32, 1 << 32, -1 << 32}

// comeWithout tells for each point whether there is a way to it from the point 0 on which the point without doesn't stand.
func comeWithout(g graph, without int) []bool {
	come := make([]bool, len(g))
	var visit func(at int)
	visit = func(at int) {
		if at < 0 || at >= len(g) || at == without || come[at] {
			return
		}
		come[at] = true
		for _, to := range g[at] {
			visit(to)
		}
	}
	visit(0)
	return come
}

// asked is what the chapter's words say of a graph: come tells which points can be come to, over which point dominates which one (over[a][b]: a dominates b).
type asked struct {
	g    graph
	come []bool
	over [][]bool
}

// ask works out by taking away each point in turn which ones it dominates.
func ask(g graph) asked {
	a := asked{g, comeWithout(g, -1), make([][]bool, len(g))}
	for at := range g {
		a.over[at] = make([]bool, len(g))
		still := comeWithout(g, at)
		for b := range g {
			a.over[at][b] = a.come[b] && !still[b]
		}
	}
	return a
}

// nearest answers for each point the one other than it that dominates it, and is dominated by all others that do.
func (a asked) nearest() []int {
	near := make([]int, len(a.g))
	for b := range a.g {
		var others []int
		for at := range a.g {
			if at != b && a.over[at][b] {
				others = append(others, at)
			}
		}
		near[b] = -1
		for _, at := range others {
			if !slices.ContainsFunc(others, func(c int) bool { return !a.over[c][at] }) {
				near[b] = at
			}
		}
	}
	return near
}

// frontier answers for each point the points that can be come to to which one that it dominates leads, and which it doesn't dominate, or is itself.
func (a asked) frontier() [][]int {
	all := make([][]int, len(a.g))
	for at := range a.g {
		var to []int
		for x := range a.g {
			if a.over[at][x] {
				to = append(to, a.g[x]...)
			}
		}
		for y := range a.g {
			if slices.Contains(to, y) && (!a.over[at][y] || at == y) {
				all[at] = append(all[at], y)
			}
		}
	}
	return all
}

// askedKids answers for each point those whose nearest one it is: each two points are held against each other.
func askedKids(near []int) [][]int {
	kids := make([][]int, len(near))
	for up := range near {
		for at := range near {
			if near[at] == up {
				kids[up] = append(kids[up], at)
			}
		}
	}
	return kids
}

// hold holds what is told of g against the other ways of asking.
func hold(t *testing.T, g graph) {
	t.Helper()
	a := ask(g)
	near := dom.Nearest(g)
	if want := a.nearest(); !slices.Equal(near, want) {
		t.Fatalf("%v: the nearest ones are %v, not %v", g, near, want)
	}
	if got, want := dom.Frontier(g), a.frontier(); !same(got, want) {
		t.Fatalf("%v: the frontiers are %v, not %v", g, got, want)
	}
	if got, want := dom.Kids(near), askedKids(near); !same(got, want) {
		t.Fatalf("%v: the kids are %v, not %v", g, got, want)
	}
	for b := range g {
		for at := range g {
			if a.come[b] && dom.Dominates(near, at, b) != a.over[at][b] {
				t.Fatalf("%v: is %d told to dominate %d? %v", g, at, b, !a.over[at][b])
			}
		}
	}
}

// follows holds what follows: each point but 0 that can be come to has a nearest one, which stands ahead of it in the order; no other point has one.
func follows(t *testing.T, g graph) {
	t.Helper()
	near, order := dom.Nearest(g), flow.Order(g)
	if len(near) != len(g) {
		t.Fatalf("%v: %d nearest ones", g, len(near))
	}
	for at := range g {
		place := slices.Index(order, at)
		if place < 1 && near[at] != -1 {
			t.Fatalf("%v: %d has the nearest one %d", g, at, near[at])
		}
		if place >= 1 && !slices.Contains(order[:place], near[at]) {
			t.Fatalf("%v: the nearest one of %d, %d, isn't ahead of it in the order %v", g, at, near[at], order)
		}
	}
}

// each calls do with each graph of n points, whose lists are of up to most of these numbers.
func each(n, most int, numbers []int, do func(graph)) {
	all := [][]int{nil}
	for from := 0; most > 0; most-- {
		till := len(all)
		for _, have := range all[from:till] {
			for _, to := range numbers {
				all = append(all, append(slices.Clone(have), to))
			}
		}
		from = till
	}
	g := make(graph, n)
	var set func(at int)
	set = func(at int) {
		if at == n {
			do(g)
			return
		}
		for _, l := range all {
			g[at] = l
			set(at + 1)
		}
	}
	set(0)
}

// eachSet calls do with each graph of n points whose lists are rising.
func eachSet(n int, do func(graph)) {
	for bits := range 1 << (n * n) {
		g := make(graph, n)
		for step := range n * n {
			if bits>>step&1 == 1 {
				g[step/n] = append(g[step/n], step%n)
			}
		}
		do(g)
	}
}

// eachSmall calls do with all graphs of up to four points, and for fewer with lists in any order, with points twice, and with numbers that are no points'.
func eachSmall(do func(graph)) {
	do(nil)
	each(1, 4, []int{-1, 0, 1}, do)
	each(2, 3, []int{-1, 0, 1, 2}, do)
	each(3, 2, []int{-1, 0, 1, 2, 3}, do)
	each(4, 2, []int{0, 1, 2, 3}, do)
	eachSet(4, do)
}

// byChance calls do with graphs of up to points points as chance has them (always the same), with lists of up to most numbers.
func byChance(times, points, most int, do func(*rand.Rand, graph)) {
	chance := rand.New(rand.NewSource(10))
	for range times {
		g := make(graph, 1+chance.Intn(points))
		for at := range g {
			for range chance.Intn(most + 1) {
				g[at] = append(g[at], chance.Intn(len(g)+2)-1)
			}
		}
		do(chance, g)
	}
}

func TestGraphs(t *testing.T) {
	for _, c := range []struct {
		g        graph
		near     []int
		frontier [][]int
		kids     [][]int
	}{
		{nil, nil, nil, nil},
		// One point alone, and one that leads to itself.
		{graph{nil}, []int{-1}, graph{nil}, graph{nil}},
		{graph{{0}}, []int{-1}, graph{{0}}, graph{nil}},
		{graph{{0, 0}}, []int{-1}, graph{{0}}, graph{nil}},
		// The chapter's examples.
		{graph{{1, 2}, {3}, {3}, nil}, []int{-1, 0, 0, 0}, graph{nil, {3}, {3}, nil}, graph{{1, 2, 3}, nil, nil, nil}},
		{graph{{1}, {1}}, []int{-1, 0}, graph{nil, {1}}, graph{{1}, nil}},
		// A way, and one in another order.
		{graph{{1}, {2}, nil}, []int{-1, 0, 1}, graph{nil, nil, nil}, graph{{1}, {2}, nil}},
		{graph{{2}, nil, {1}}, []int{-1, 2, 0}, graph{nil, nil, nil}, graph{{2}, nil, {1}}},
		// A long way and a short one to one point, at which they meet far from where they began.
		{graph{{1}, {2, 5}, {3}, {4}, {5}, nil}, []int{-1, 0, 1, 2, 3, 1}, graph{nil, nil, {5}, {5}, {5}, nil}, graph{{1}, {2, 5}, {3}, {4}, nil, nil}},
		// A round, into which one way leads; back to 0; and one into which two lead.
		{graph{{1}, {2, 3}, {1}, nil}, []int{-1, 0, 1, 1}, graph{nil, {1}, {1}, nil}, graph{{1}, {2, 3}, nil, nil}},
		{graph{{1}, {2}, {0}}, []int{-1, 0, 1}, graph{{0}, {0}, {0}}, graph{{1}, {2}, nil}},
		{graph{{1, 2}, {2}, {1}}, []int{-1, 0, 0}, graph{nil, {2}, {1}}, graph{{1, 2}, nil, nil}},
		// Rounds within rounds.
		{graph{{1}, {2}, {3}, {2, 4}, {1, 5}, nil}, []int{-1, 0, 1, 2, 3, 4}, graph{nil, {1}, {1, 2}, {1, 2}, {1}, nil}, graph{{1}, {2}, {3}, {4}, {5}, nil}},
		// Rounds into which two ways lead, next to one another: what is found of one has to be gone through the order again for the next one.
		{graph{{1, 2}, {3}, {4, 5}, {4}, {3, 5}, {4}}, []int{-1, 0, 0, 0, 0, 0}, graph{nil, {3}, {4, 5}, {4}, {3, 5}, {4}}, graph{{1, 2, 3, 4, 5}, nil, nil, nil, nil, nil}},
		{graph{{1, 4}, {2}, {1, 3}, {2, 4}, {3}}, []int{-1, 0, 0, 0, 0}, graph{nil, {2}, {1, 3}, {2, 4}, {3}}, graph{{1, 2, 3, 4}, nil, nil, nil, nil}},
		// Points that can't be come to, and lead to points that can, to 0, to one another.
		{graph{{2}, {2}, nil}, []int{-1, -1, 0}, graph{nil, nil, nil}, graph{{2}, nil, nil}},
		{graph{nil, {0}}, []int{-1, -1}, graph{nil, nil}, graph{nil, nil}},
		{graph{{3}, {2, 3}, {1, 0}, nil}, []int{-1, -1, -1, 0}, graph{nil, nil, nil, nil}, graph{{3}, nil, nil, nil}},
		{graph{nil, {1}}, []int{-1, -1}, graph{nil, nil}, graph{nil, nil}},
		{graph{{4}, {5, 3}, {4}, {2}, {5, 4}, nil}, []int{-1, -1, -1, -1, 0, 4}, graph{nil, nil, nil, nil, {4}, nil}, graph{{4}, nil, nil, nil, {5}, nil}},
		// One point twice in a list, next to itself and not.
		{graph{{1, 1}, nil}, []int{-1, 0}, graph{nil, nil}, graph{{1}, nil}},
		{graph{{1, 2, 1}, {3, 3}, {3, 3, 3}, nil}, []int{-1, 0, 0, 0}, graph{nil, {3}, {3}, nil}, graph{{1, 2, 3}, nil, nil, nil}},
		// Numbers that are no points'.
		{graph{{-1, 1}, {2, 3}, {-2, 1}}, []int{-1, 0, 1}, graph{nil, {1}, {1}}, graph{{1}, {2}, nil}},
		{graph{{math.MaxInt, math.MinInt}, {0}}, []int{-1, -1}, graph{nil, nil}, graph{nil, nil}},
	} {
		near := dom.Nearest(c.g)
		if !slices.Equal(near, c.near) {
			t.Errorf("%v: the nearest ones are %v", c.g, near)
		}
		if l := dom.Frontier(c.g); !same(l, c.frontier) {
			t.Errorf("%v: the frontiers are %v", c.g, l)
		}
		if l := dom.Kids(c.near); !same(l, c.kids) {
			t.Errorf("%v: the kids are %v", c.g, l)
		}
		hold(t, c.g)
		follows(t, c.g)
	}
}

func TestSmallGraphs(t *testing.T) {
	eachSmall(func(g graph) { hold(t, g) })
}

func TestGraphsByChance(t *testing.T) {
	for most := 1; most <= 5; most++ {
		byChance(3000, 12, most, func(_ *rand.Rand, g graph) { hold(t, g) })
		byChance(20, 150, most, func(_ *rand.Rand, g graph) { hold(t, g) })
	}
}

// Graphs of which each point leads to next ones and to some others have long ways up, and rounds of all kinds.
func TestLongGraphsByChance(t *testing.T) {
	chance := rand.New(rand.NewSource(10))
	for range 1500 {
		place := chance.Perm(2 + chance.Intn(30))
		zero := slices.Index(place, 0)
		place[0], place[zero] = place[zero], place[0]
		g := make(graph, len(place))
		for i := range len(place) - 1 {
			g[place[i]] = append(g[place[i]], place[i+1])
		}
		for range chance.Intn(12) {
			from, to := chance.Intn(len(g)), chance.Intn(len(g))
			g[from] = slices.Insert(g[from], chance.Intn(len(g[from])+1), to)
		}
		hold(t, g)
		follows(t, g)
	}
}

// What follows of the nearest ones.
func TestNearestFollows(t *testing.T) {
	eachSmall(func(g graph) { follows(t, g) })
	for most := 1; most <= 5; most++ {
		byChance(3000, 12, most, func(_ *rand.Rand, g graph) { follows(t, g) })
	}
}

// Each point that can be come to dominates itself, 0 dominates each, and none but 0 dominates 0.
func TestDominatesAtTheEdges(t *testing.T) {
	byChance(2000, 12, 3, func(_ *rand.Rand, g graph) {
		near := dom.Nearest(g)
		for at, come := range flow.Come(g) {
			if come && (!dom.Dominates(near, at, at) || !dom.Dominates(near, 0, at)) {
				t.Fatalf("%v: %d is dominated by itself: %v, by 0: %v", g, at, dom.Dominates(near, at, at), dom.Dominates(near, 0, at))
			}
			if at != 0 && dom.Dominates(near, at, 0) {
				t.Fatalf("%v: 0 is dominated by %d", g, at)
			}
		}
	})
}

// No number that isn't a point's dominates a point, is dominated by one, or by itself.
func TestDominatesOfNoPoints(t *testing.T) {
	for _, g := range []graph{nil, {nil}, {{0}}, {{1}, {2}, {0}}, {{1, 2}, {3}, {3}, nil}, {nil, {2}, {1}}} {
		near := dom.Nearest(g)
		none := append([]int{len(g), len(g) + 1, 2*len(g) + 1}, noPoint...)
		for _, no := range none {
			for at := range g {
				if dom.Dominates(near, no, at) || dom.Dominates(near, at, no) {
					t.Errorf("%v: %d and %d", g, at, no)
				}
			}
			for _, other := range none {
				if dom.Dominates(near, no, other) {
					t.Errorf("%v: %d is told to dominate %d", g, no, other)
				}
			}
		}
	}
}

// Numbers that are no points' mean nothing, wherever they stand, and neither does a point that stands in a list again, nor in which order it does: nothing else is told.
func TestListsThatMeanTheSame(t *testing.T) {
	byChance(3000, 12, 3, func(chance *rand.Rand, g graph) {
		n := len(g)
		none := append([]int{n, n + 1, -n, 2 * n}, noPoint...)
		more, less := make(graph, n), make(graph, n)
		for at, l := range g {
			less[at] = slices.DeleteFunc(slices.Clone(l), func(to int) bool { return to < 0 || to >= n })
			more[at] = append(slices.Clone(less[at]), less[at]...)
			for range chance.Intn(4) {
				if no := none[chance.Intn(len(none))]; no < 0 || no >= n {
					more[at] = append(more[at], no)
				}
			}
			chance.Shuffle(len(more[at]), func(i, j int) { more[at][i], more[at][j] = more[at][j], more[at][i] })
		}
		if !slices.Equal(dom.Nearest(more), dom.Nearest(less)) || !same(dom.Frontier(more), dom.Frontier(less)) {
			t.Fatalf("%v isn't told of as %v", more, less)
		}
	})
}

// Of points without a nearest one, 0 and those that can't be come to, none is another one's kid; each other point is one's.
func TestKidsOfAll(t *testing.T) {
	byChance(3000, 12, 2, func(_ *rand.Rand, g graph) {
		near := dom.Nearest(g)
		var got, want []int
		for up, l := range dom.Kids(near) {
			if !slices.IsSorted(l) || slices.ContainsFunc(l, func(at int) bool { return near[at] != up }) {
				t.Fatalf("%v: the kids of %d are %v", g, up, l)
			}
			got = append(got, l...)
		}
		for at := range g {
			if near[at] != -1 {
				want = append(want, at)
			}
		}
		slices.Sort(got)
		if !slices.Equal(got, want) {
			t.Fatalf("%v: kids are %v, not %v", g, got, want)
		}
	})
}

// Of a list that Nearest doesn't tell of any graph nothing is promised, but that calls end.
func TestWhatNearestDoesNotTell(t *testing.T) {
	tell := func(near []int) {
		if kids := dom.Kids(near); len(kids) != len(near) {
			t.Fatalf("%v: the kids of %d points", near, len(kids))
		}
		for a := -1; a <= len(near); a++ {
			for b := -1; b <= len(near); b++ {
				dom.Dominates(near, a, b)
			}
		}
	}
	each(1, 4, []int{-2, -1, 0, 1, 2, 3, 4, 5}, func(g graph) { tell(g[0]) })
	for _, no := range noPoint {
		tell([]int{no})
		tell([]int{no, 0, no, 2, no})
	}
}
