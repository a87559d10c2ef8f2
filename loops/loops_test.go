package loops_test

import (
	"math"
	"math/rand"
	"slices"
	"testing"

	"lateen/loops"
)

// graph is, for each point, the list of those to which it leads.
type graph = [][]int

// sameLoops tells whether two lists of loops are the same, nil and empty lists being one.
func sameLoops(a, b []loops.Loop) bool {
	return slices.EqualFunc(a, b, func(l, m loops.Loop) bool {
		return l.Head == m.Head && slices.Equal(l.Body, m.Body) && slices.Equal(l.Back, m.Back)
	})
}

// noPoint are numbers that are no points' of any graph here.
var noPoint = []int{-1, -2, math.MinInt, math.MaxInt, math.MinInt32, math.MaxInt32, 1 << 32, -1 << 32}

// comeFrom tells for each point whether there is a way to it from the point from, of no steps too, on which the point without doesn't stand.
func comeFrom(g graph, from, without int) []bool {
	come := make([]bool, len(g))
	var visit func(at int)
	visit = func(at int) {
		if at < 0 || at >= len(g) || at == without || come[at] {
			return
		}
		come[at] = true
		for _, to := range g[at] {
			visit(to)
		}
	}
	visit(from)
	return come
}

// asked is what the chapters' words say of a graph: come tells which points can be come to, over which point dominates which one (over[a][b]: a dominates b).
type asked struct {
	g    graph
	come []bool
	over [][]bool
}

// ask works out by taking away each point in turn which ones it dominates.
func ask(g graph) asked {
	a := asked{g, comeFrom(g, 0, -1), make([][]bool, len(g))}
	for at := range g {
		a.over[at] = make([]bool, len(g))
		still := comeFrom(g, 0, at)
		for b := range g {
			a.over[at][b] = a.come[b] && !still[b]
		}
	}
	return a
}

// leadsBack tells whether the point at can be come to, and leads to the point head, which dominates it.
func (a asked) leadsBack(at, head int) bool {
	return a.come[at] && slices.Contains(a.g[at], head) && a.over[head][at]
}

// loop answers the loop of head, with no points that lead back if it is no head.
func (a asked) loop(head int) loops.Loop {
	l := loops.Loop{Head: head}
	for at := range a.g {
		if a.leadsBack(at, head) {
			l.Back = append(l.Back, at)
		}
	}
	for at := range a.g {
		to := comeFrom(a.g, at, head)
		if at == head || a.come[at] && slices.ContainsFunc(l.Back, func(b int) bool { return to[b] }) {
			l.Body = append(l.Body, at)
		}
	}
	return l
}

// loops answers the loops of all heads.
func (a asked) loops() []loops.Loop {
	var all []loops.Loop
	for at := range a.g {
		if l := a.loop(at); len(l.Back) > 0 {
			all = append(all, l)
		}
	}
	return all
}

// crossed tells whether there is a way round from a point that can be come to, when the steps back to heads are taken away.
func (a asked) crossed() bool {
	left := make(graph, len(a.g))
	for at, l := range a.g {
		for _, to := range l {
			if to >= 0 && to < len(a.g) && !a.leadsBack(at, to) {
				left[at] = append(left[at], to)
			}
		}
	}
	for at, l := range left {
		for _, to := range l {
			if a.come[at] && comeFrom(left, to, -1)[at] {
				return true
			}
		}
	}
	return false
}

// hold holds what is told of g against the other way of asking.
func hold(t *testing.T, g graph) {
	t.Helper()
	a := ask(g)
	all := loops.All(g)
	if want := a.loops(); !sameLoops(all, want) {
		t.Fatalf("%v: the loops are %v, not %v", g, all, want)
	}
	if got, want := loops.Crossed(g), a.crossed(); got != want {
		t.Fatalf("%v: is it crossed? %v", g, got)
	}
	if got, want := loops.Depth(all, len(g)), askedDepth(all, len(g)); !slices.Equal(got, want) {
		t.Fatalf("%v: the depths are %v, not %v", g, got, want)
	}
}

// disjoint tells whether two lists have no number in common.
func disjoint(a, b []int) bool {
	return !slices.ContainsFunc(a, func(n int) bool { return slices.Contains(b, n) })
}

// within tells whether all numbers of a are in b.
func within(a, b []int) bool {
	return !slices.ContainsFunc(a, func(n int) bool { return !slices.Contains(b, n) })
}

// isRising tells whether each number of l is more than the one ahead.
func isRising(l []int) bool {
	for i := range l {
		if i > 0 && l[i-1] >= l[i] {
			return false
		}
	}
	return true
}

// follows holds what follows: a head dominates its loop's points, and of two loops one has all points of the other one, or they have none in common.
func follows(t *testing.T, g graph) {
	t.Helper()
	all, over := loops.All(g), ask(g).over
	for i, l := range all {
		for _, at := range l.Body {
			if !over[l.Head][at] {
				t.Fatalf("%v: the head of %v doesn't dominate %d", g, l, at)
			}
		}
		if len(l.Back) == 0 || !isRising(l.Back) || !isRising(l.Body) || !within(l.Back, l.Body) || !slices.Contains(l.Body, l.Head) {
			t.Fatalf("%v: a loop is %v", g, l)
		}
		for _, m := range all[:i] {
			if m.Head >= l.Head {
				t.Fatalf("%v: the loops of %d and %d follow one another", g, m.Head, l.Head)
			}
			if !within(l.Body, m.Body) && !within(m.Body, l.Body) && !disjoint(l.Body, m.Body) {
				t.Fatalf("%v: there are the loops %v and %v", g, m, l)
			}
		}
	}
}

// each calls do with each graph of n points, whose lists are of up to most of these numbers.
func each(n, most int, numbers []int, do func(graph)) {
	all := [][]int{nil}
	for from := 0; most > 0; most-- {
		till := len(all)
		for _, have := range all[from:till] {
			for _, to := range numbers {
				all = append(all, append(slices.Clone(have), to))
			}
		}
		from = till
	}
	g := make(graph, n)
	var set func(at int)
	set = func(at int) {
		if at == n {
			do(g)
			return
		}
		for _, l := range all {
			g[at] = l
			set(at + 1)
		}
	}
	set(0)
}

// eachSet calls do with each graph of n points whose lists are rising.
func eachSet(n int, do func(graph)) {
	for bits := range 1 << (n * n) {
		g := make(graph, n)
		for step := range n * n {
			if bits>>step&1 == 1 {
				g[step/n] = append(g[step/n], step%n)
			}
		}
		do(g)
	}
}

// eachSmall calls do with all graphs of up to four points, and for fewer with lists in any order, with points twice, and with numbers that are no points'.
func eachSmall(do func(graph)) {
	do(nil)
	each(1, 4, []int{-1, 0, 1}, do)
	each(2, 3, []int{-1, 0, 1, 2}, do)
	each(3, 2, []int{-1, 0, 1, 2, 3}, do)
	each(4, 2, []int{0, 1, 2, 3}, do)
	eachSet(4, do)
}

// byChance calls do with graphs of up to points points as chance has them (always the same), with lists of up to most numbers.
func byChance(times, points, most int, do func(*rand.Rand, graph)) {
	chance := rand.New(rand.NewSource(11))
	for range times {
		g := make(graph, 1+chance.Intn(points))
		for at := range g {
			for range chance.Intn(most + 1) {
				g[at] = append(g[at], chance.Intn(len(g)+2)-1)
			}
		}
		do(chance, g)
	}
}

// longByChance calls do with graphs as chance has them (always the same) of which each point leads to a next one, and some to others: ahead and behind, if crossing, else behind alone.
func longByChance(times, points, steps int, crossing bool, do func(graph)) {
	chance := rand.New(rand.NewSource(11))
	for range times {
		place := chance.Perm(2 + chance.Intn(points))
		zero := slices.Index(place, 0)
		place[0], place[zero] = place[zero], place[0]
		g := make(graph, len(place))
		for i := range len(place) - 1 {
			g[place[i]] = append(g[place[i]], place[i+1])
		}
		for range chance.Intn(steps) {
			i, j := chance.Intn(len(g)), chance.Intn(len(g))
			if !crossing {
				i, j = max(i, j), min(i, j)
			}
			from := place[i]
			g[from] = slices.Insert(g[from], chance.Intn(len(g[from])+1), place[j])
		}
		do(g)
	}
}

// loop answers the loop of a head.
func loop(head int, body, back []int) loops.Loop {
	return loops.Loop{Head: head, Body: body, Back: back}
}

// worked is a graph, and what was worked out of it by hand.
type worked struct {
	g       graph
	crossed bool
	loops   []loops.Loop
}

// cases answers graphs of all kinds that the chapter names.
func cases() []worked {
	type list = []int
	return []worked{
		{nil, false, nil},
		// One point alone, and one that leads to itself.
		{graph{nil}, false, nil},
		{graph{{0}}, false, []loops.Loop{loop(0, list{0}, list{0})}},
		{graph{{0, 0}}, false, []loops.Loop{loop(0, list{0}, list{0})}},
		{graph{{1}, {1}}, false, []loops.Loop{loop(1, list{1}, list{1})}},
		{graph{{0, 1}, {1}}, false, []loops.Loop{loop(0, list{0}, list{0}), loop(1, list{1}, list{1})}},
		// The chapter's examples.
		{graph{{1}, {2, 3}, {1}, nil}, false, []loops.Loop{loop(1, list{1, 2}, list{2})}},
		{graph{{1, 2}, {2}, {1}}, true, nil},
		// Without a way round.
		{graph{{1, 2}, {3}, {3}, nil}, false, nil},
		{graph{{2, 1}, {3}, {1, 3}, {4}, nil}, false, nil},
		{graph{{3}, nil, {1}, {2, 1}}, false, nil},
		// All of a way leads back to 0.
		{graph{{1}, {2, 0}, {3, 0}, {0}}, false, []loops.Loop{loop(0, list{0, 1, 2, 3}, list{1, 2, 3})}},
		// A head with many points that lead back to it, itself among them, and one that leads to some of these and out.
		{graph{{5}, {5}, {4, 5}, {1, 2}, nil, {5, 3}}, false, []loops.Loop{loop(5, list{1, 2, 3, 5}, list{1, 2, 5})}},
		// The points of a head, gone to by two ways that meet.
		{graph{{1}, {2, 3}, {4}, {4}, {1, 5}, nil}, false, []loops.Loop{loop(1, list{1, 2, 3, 4}, list{4})}},
		// Loops within loops; with one point that leads back to both heads; with an inner head that leads back to the outer one.
		{graph{{1}, {2}, {3}, {2, 4}, {1, 5}, nil}, false, []loops.Loop{loop(1, list{1, 2, 3, 4}, list{4}), loop(2, list{2, 3}, list{3})}},
		{graph{{1}, {2}, {3}, {2, 1, 4}, nil}, false, []loops.Loop{loop(1, list{1, 2, 3}, list{3}), loop(2, list{2, 3}, list{3})}},
		{graph{{1}, {2}, {3, 1}, {2}}, false, []loops.Loop{loop(1, list{1, 2, 3}, list{2}), loop(2, list{2, 3}, list{3})}},
		{graph{{3}, {2, 1}, {3, 0}, {1, 3}}, false, []loops.Loop{loop(0, list{0, 1, 2, 3}, list{2}), loop(1, list{1}, list{1}), loop(3, list{1, 2, 3}, list{2, 3})}},
		// Two loops of which one's points are not the other's: behind one another, and beside one another, within a third one and not.
		{graph{{1}, {2}, {1, 3}, {4}, {3}}, false, []loops.Loop{loop(1, list{1, 2}, list{2}), loop(3, list{3, 4}, list{4})}},
		{graph{{1, 3}, {2}, {1}, {4}, {3, 5}, nil}, false, []loops.Loop{loop(1, list{1, 2}, list{2}), loop(3, list{3, 4}, list{4})}},
		{graph{{1, 3}, {2}, {1, 0}, {4}, {3, 0}}, false, []loops.Loop{loop(0, list{0, 1, 2, 3, 4}, list{2, 4}), loop(1, list{1, 2}, list{2}), loop(3, list{3, 4}, list{4})}},
		// A point to which a loop's points lead, and from which one doesn't come back, is none of them.
		{graph{{1}, {2, 4}, {3, 5}, {1}, {5}, nil}, false, []loops.Loop{loop(1, list{1, 2, 3}, list{3})}},
		// From an outer loop's other points one comes to an inner one's points only through its head.
		{graph{{1}, {2, 4}, {3, 1}, {2}, {2, 1}}, false, []loops.Loop{loop(1, list{1, 2, 3, 4}, list{2, 4}), loop(2, list{2, 3}, list{3})}},
		// Points that can't be come to, which lead into a loop, to its head, to one that leads back, and to one another; loops of such.
		{graph{{1}, {2}, {1}, {2}, {1, 3}, {0}}, false, []loops.Loop{loop(1, list{1, 2}, list{2})}},
		{graph{{3}, {1, 3}, {4, 1}, {4}, {3}}, false, []loops.Loop{loop(3, list{3, 4}, list{4})}},
		{graph{nil, {2}, {1}}, false, nil},
		{graph{nil, {1, 0}}, false, nil},
		{graph{nil, {2, 3}, {3, 1}, {2}}, false, nil},
		{graph{{0}, {0, 2}, {1, 0}}, false, []loops.Loop{loop(0, list{0}, list{0})}},
		// Ways round that are no loop's: beside a loop, behind one, within one, around one.
		{graph{{1, 2, 3}, {2}, {1}, {3}}, true, []loops.Loop{loop(3, list{3}, list{3})}},
		{graph{{1}, {1, 2, 3}, {3}, {2}}, true, []loops.Loop{loop(1, list{1}, list{1})}},
		{graph{{1}, {2, 3}, {3}, {2, 1}}, true, []loops.Loop{loop(1, list{1, 2, 3}, list{3})}},
		{graph{{1, 2}, {2, 0}, {1}}, true, []loops.Loop{loop(0, list{0, 1, 2}, list{1})}},
		{graph{{1, 2}, {2, 1}, {1}}, true, []loops.Loop{loop(1, list{1}, list{1})}},
		{graph{{1, 2}, {3, 2}, {1}, {1}}, true, []loops.Loop{loop(1, list{1, 3}, list{3})}},
		// A way into the midst of what would be a loop else.
		{graph{{1, 3}, {2}, {3}, {1, 4}, nil}, true, nil},
		// Two ways round through one point, of which none is a loop's, and one is.
		{graph{{1, 3}, {2}, {1, 3}, {2}}, true, nil},
		{graph{{1}, {2, 4}, {3}, {2, 4}, {3, 1}}, true, []loops.Loop{loop(1, list{1, 2, 3, 4}, list{4})}},
		// One point twice in a list.
		{graph{{1, 1}, {2, 2, 1, 1}, {1, 1, 1}}, false, []loops.Loop{loop(1, list{1, 2}, list{1, 2})}},
		{graph{{1, 2, 1}, {2, 2}, {1, 1}}, true, nil},
		// Numbers that are no points'.
		{graph{{-1, 1}, {2, 3}, {-2, 1}}, false, []loops.Loop{loop(1, list{1, 2}, list{2})}},
		{graph{{math.MaxInt, math.MinInt}, {0, 1}}, false, nil},
		{graph{{1, 3, 2}, {3}, {-1, 3}}, false, nil},
	}
}

func TestGraphs(t *testing.T) {
	for _, c := range cases() {
		if l := loops.All(c.g); !sameLoops(l, c.loops) {
			t.Errorf("%v: the loops are %v", c.g, l)
		}
		if loops.Crossed(c.g) != c.crossed {
			t.Errorf("%v: is it crossed? %v", c.g, !c.crossed)
		}
		hold(t, c.g)
		follows(t, c.g)
	}
}

func TestSmallGraphs(t *testing.T) {
	eachSmall(func(g graph) { hold(t, g) })
}

func TestGraphsByChance(t *testing.T) {
	for most := 1; most <= 5; most++ {
		byChance(2000, 12, most, func(_ *rand.Rand, g graph) { hold(t, g) })
		byChance(10, 100, most, func(_ *rand.Rand, g graph) { hold(t, g) })
	}
}

// Graphs of which each point leads to a next one have many loops, within one another and not, and ways round of all kinds.
func TestLongGraphsByChance(t *testing.T) {
	for _, crossing := range []bool{false, true} {
		longByChance(1500, 30, 15, crossing, func(g graph) {
			hold(t, g)
			follows(t, g)
			if !crossing && loops.Crossed(g) {
				t.Fatalf("%v is told to be crossed", g)
			}
		})
	}
}

// What follows.
func TestLoopsFollow(t *testing.T) {
	eachSmall(func(g graph) { follows(t, g) })
	for most := 1; most <= 5; most++ {
		byChance(2000, 12, most, func(_ *rand.Rand, g graph) { follows(t, g) })
	}
}

// Numbers that are no points' mean nothing, wherever they stand, and neither does a point that stands in a list again, nor in which order it does: nothing else is told.
func TestListsThatMeanTheSame(t *testing.T) {
	byChance(3000, 12, 3, func(chance *rand.Rand, g graph) {
		n := len(g)
		none := append([]int{n, n + 1, -n, 2 * n}, noPoint...)
		more, less := make(graph, n), make(graph, n)
		for at, l := range g {
			less[at] = slices.DeleteFunc(slices.Clone(l), func(to int) bool { return to < 0 || to >= n })
			more[at] = append(slices.Clone(less[at]), less[at]...)
			for range chance.Intn(4) {
				if no := none[chance.Intn(len(none))]; no < 0 || no >= n {
					more[at] = append(more[at], no)
				}
			}
			chance.Shuffle(len(more[at]), func(i, j int) { more[at][i], more[at][j] = more[at][j], more[at][i] })
		}
		if !sameLoops(loops.All(more), loops.All(less)) || loops.Crossed(more) != loops.Crossed(less) {
			t.Fatalf("%v isn't told of as %v", more, less)
		}
	})
}

// What can't be come to tells nothing: wherever such points lead, the loops are the same, and so is whether the graph is crossed.
func TestPointsThatCannotBeComeTo(t *testing.T) {
	byChance(3000, 8, 3, func(chance *rand.Rand, g graph) {
		n := len(g)
		bare, more := slices.Clone(g), slices.Clone(g)
		for at, come := range comeFrom(g, 0, -1) {
			if !come {
				bare[at], more[at] = nil, chance.Perm(n)
				continue
			}
			bare[at] = slices.DeleteFunc(slices.Clone(g[at]), func(to int) bool { return to >= n })
			more[at] = bare[at]
		}
		for range 3 {
			more = append(more, chance.Perm(n+3))
		}
		if !sameLoops(loops.All(more), loops.All(bare)) || loops.Crossed(more) != loops.Crossed(bare) {
			t.Fatalf("%v isn't told of as %v", more, bare)
		}
	})
}
