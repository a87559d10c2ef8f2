package flow_test

import (
	"math"
	"math/rand"
	"slices"
	"testing"

	"lateen/flow"
)

// graph is, for each point, the list of those to which it leads.
type graph = [][]int

// same tells whether two lists of lists are the same, nil and empty ones being one.
func same(a, b [][]int) bool {
	return slices.EqualFunc(a, b, slices.Equal[[]int])
}

// goneDown goes down from the point 0 as the chapter's words have it, and answers the points in the order in which they are left.
func goneDown(g graph) []int {
	var marked, left []int
	var down func(at int)
	down = func(at int) {
		marked = append(marked, at)
		for _, to := range g[at] {
			if to >= 0 && to < len(g) && !slices.Contains(marked, to) {
				down(to)
			}
		}
		left = append(left, at)
	}
	if len(g) > 0 {
		down(0)
	}
	return left
}

// askedOrder is another way of asking for Order.
func askedOrder(g graph) []int {
	l := goneDown(g)
	slices.Reverse(l)
	return l
}

// askedPreds is another way of asking for Preds: each two points are held against each other.
func askedPreds(g graph) [][]int {
	from := make([][]int, len(g))
	for to := range g {
		for at := range g {
			if slices.Contains(g[at], to) {
				from[to] = append(from[to], at)
			}
		}
	}
	return from
}

// askedCome is another way of asking for Come: what can be come to grows as long as it does.
func askedCome(g graph) []bool {
	come := make([]bool, len(g))
	for to := range come {
		come[to] = to == 0
	}
	for grown := true; grown; {
		grown = false
		for at := range g {
			for to := range g {
				if come[at] && !come[to] && slices.Contains(g[at], to) {
					come[to], grown = true, true
				}
			}
		}
	}
	return come
}

// hold holds what is told of g against the other ways of asking.
func hold(t *testing.T, g graph) {
	t.Helper()
	if got, want := flow.Order(g), askedOrder(g); !slices.Equal(got, want) {
		t.Fatalf("%v: the order is %v, not %v", g, got, want)
	}
	if got, want := flow.Preds(g), askedPreds(g); !same(got, want) {
		t.Fatalf("%v: led to from %v, not %v", g, got, want)
	}
	if got, want := flow.Come(g), askedCome(g); !slices.Equal(got, want) {
		t.Fatalf("%v: come to are %v, not %v", g, got, want)
	}
}

// follows holds what follows of the order: it begins with 0, and each other point has one that leads to it ahead of it; each stands there once.
func follows(t *testing.T, g graph) {
	t.Helper()
	order := flow.Order(g)
	if (len(order) == 0) != (len(g) == 0) || len(order) > 0 && order[0] != 0 {
		t.Fatalf("%v: the order %v doesn't begin with 0", g, order)
	}
	for at, p := range order {
		if slices.Contains(order[:at], p) {
			t.Fatalf("%v: %d stands twice in the order %v", g, p, order)
		}
		if at > 0 && !slices.ContainsFunc(order[:at], func(from int) bool { return slices.Contains(g[from], p) }) {
			t.Fatalf("%v: none that leads to %d is ahead of it in the order %v", g, p, order)
		}
	}
}

// each calls do with each graph of n points, whose lists are of up to most of these numbers.
func each(n, most int, numbers []int, do func(graph)) {
	all := [][]int{nil}
	for from := 0; most > 0; most-- {
		till := len(all)
		for _, have := range all[from:till] {
			for _, to := range numbers {
				all = append(all, append(slices.Clone(have), to))
			}
		}
		from = till
	}
	g := make(graph, n)
	var set func(at int)
	set = func(at int) {
		if at == n {
			do(g)
			return
		}
		for _, l := range all {
			g[at] = l
			set(at + 1)
		}
	}
	set(0)
}

// eachSmall calls do with all graphs of up to two points with up to three numbers in each list, of three with up to two, and of four with up to two that are points.
func eachSmall(do func(graph)) {
	do(nil)
	each(1, 4, []int{-1, 0, 1}, do)
	each(2, 3, []int{-1, 0, 1, 2}, do)
	each(3, 2, []int{-1, 0, 1, 2, 3}, do)
	each(4, 2, []int{0, 1, 2, 3}, do)
}

// byChance calls do with graphs of up to twelve points as chance has them (always the same), with lists of up to most numbers.
func byChance(times, most int, do func(*rand.Rand, graph)) {
	chance := rand.New(rand.NewSource(9))
	for range times {
		g := make(graph, 1+chance.Intn(12))
		for at := range g {
			for range chance.Intn(most + 1) {
				g[at] = append(g[at], chance.Intn(len(g)+2)-1)
			}
		}
		do(chance, g)
	}
}

func TestGraphs(t *testing.T) {
	for _, c := range []struct {
		g     graph
		order []int
		preds [][]int
	}{
		{nil, nil, nil},
		// One point alone, and one that leads to itself.
		{graph{nil}, []int{0}, graph{nil}},
		{graph{{0}}, []int{0}, graph{{0}}},
		{graph{{0, 0, 0}}, []int{0}, graph{{0}}},
		{graph{{1}, {1}}, []int{0, 1}, graph{nil, {0, 1}}},
		{graph{{1, 0}, {1, 0}}, []int{0, 1}, graph{{0, 1}, {0, 1}}},
		// The chapter's example, and the other way round.
		{graph{{1, 2}, {3}, {3}, nil}, []int{0, 2, 1, 3}, graph{nil, {0}, {0}, {1, 2}}},
		{graph{{2, 1}, {3}, {3}, nil}, []int{0, 1, 2, 3}, graph{nil, {0}, {0}, {1, 2}}},
		// Two ways to one point, a long one and a short one.
		{graph{{1, 2}, {2}, nil}, []int{0, 1, 2}, graph{nil, {0}, {0, 1}}},
		{graph{{2, 1}, {2}, nil}, []int{0, 1, 2}, graph{nil, {0}, {0, 1}}},
		{graph{{1, 3}, {2}, {3}, nil}, []int{0, 1, 2, 3}, graph{nil, {0}, {1}, {0, 2}}},
		{graph{{1, 2}, nil, {1}}, []int{0, 2, 1}, graph{nil, {0, 2}, {0}}},
		// A point is marked when one goes down from it, not when it is first seen in a list.
		{graph{{1, 2, 3}, {3}, {1}, {2}}, []int{0, 1, 3, 2}, graph{nil, {0, 2}, {0, 3}, {0, 1}}},
		{graph{{3, 2, 1}, {3}, {1}, {2}}, []int{0, 3, 2, 1}, graph{nil, {0, 2}, {0, 3}, {0, 1}}},
		{graph{{2, 3, 1}, {3}, {1}, {2}}, []int{0, 2, 1, 3}, graph{nil, {0, 2}, {0, 3}, {0, 1}}},
		// Rounds, into which two ways lead; and one back to 0.
		{graph{{1, 2}, {2}, {1}}, []int{0, 1, 2}, graph{nil, {0, 2}, {0, 1}}},
		{graph{{2, 1}, {2}, {1}}, []int{0, 2, 1}, graph{nil, {0, 2}, {0, 1}}},
		{graph{{1}, {2}, {3, 0}, {1}}, []int{0, 1, 2, 3}, graph{{2}, {0, 3}, {1}, {2}}},
		{graph{{1}, {2, 4}, {3}, {1}, nil}, []int{0, 1, 4, 2, 3}, graph{nil, {0, 3}, {1}, {2}, {1}}},
		// Points that can't be come to, and what they lead to.
		{graph{nil, {0}, {1}}, []int{0}, graph{{1}, {2}, nil}},
		{graph{{3}, {3}, {1}, nil}, []int{0, 3}, graph{nil, {2}, nil, {0, 1}}},
		{graph{nil, {2}, {1}}, []int{0}, graph{nil, {2}, {1}}},
		{graph{{2}, {1}, nil}, []int{0, 2}, graph{nil, {1}, {0}}},
		// One point twice in a list, next to itself and not.
		{graph{{1, 1}, nil}, []int{0, 1}, graph{nil, {0}}},
		{graph{{1, 2, 1}, nil, nil}, []int{0, 2, 1}, graph{nil, {0}, {0}}},
		{graph{{2, 1, 2, 1}, {2, 0, 2}, nil}, []int{0, 1, 2}, graph{{1}, {0}, {0, 1}}},
		// Numbers that are no points'.
		{graph{{-1, 1, 2}, {-2, 2, math.MinInt}}, []int{0, 1}, graph{nil, {0}}},
		{graph{{math.MaxInt, math.MinInt}}, []int{0}, graph{nil}},
		{graph{{7, 2, -1, 1}, {3}, {3, 0}}, []int{0, 1, 2}, graph{{2}, {0}, {0}}},
	} {
		if l := flow.Order(c.g); !slices.Equal(l, c.order) {
			t.Errorf("%v: the order is %v", c.g, l)
		}
		if l := flow.Preds(c.g); !same(l, c.preds) {
			t.Errorf("%v: led to from %v", c.g, l)
		}
		come := flow.Come(c.g)
		if len(come) != len(c.g) {
			t.Fatalf("%v: come to are %v", c.g, come)
		}
		for at := range c.g {
			if come[at] != slices.Contains(c.order, at) {
				t.Errorf("%v: come to are %v", c.g, come)
			}
		}
		hold(t, c.g)
		follows(t, c.g)
	}
}

func TestSmallGraphs(t *testing.T) {
	eachSmall(func(g graph) { hold(t, g) })
}

func TestGraphsByChance(t *testing.T) {
	for most := 1; most <= 5; most++ {
		byChance(5000, most, func(_ *rand.Rand, g graph) { hold(t, g) })
	}
}

// What follows of the order.
func TestOrderFollows(t *testing.T) {
	eachSmall(func(g graph) { follows(t, g) })
	for most := 1; most <= 5; most++ {
		byChance(5000, most, func(_ *rand.Rand, g graph) { follows(t, g) })
	}
}

// Numbers that are no points' mean nothing, wherever they stand: nothing else is told with them than without.
func TestNumbersThatAreNoPoints(t *testing.T) {
	byChance(3000, 3, func(chance *rand.Rand, g graph) {
		n := len(g)
		none := []int{-1, -2, -n, n, n + 1, 2 * n, math.MaxInt, math.MinInt, math.MaxInt32, math.MinInt32, 1 << 32, -1 << 32}
		more, less := make(graph, n), make(graph, n)
		for at, l := range g {
			less[at] = slices.DeleteFunc(slices.Clone(l), func(to int) bool { return to < 0 || to >= n })
			more[at] = slices.Clone(less[at])
			for range chance.Intn(4) {
				more[at] = slices.Insert(more[at], chance.Intn(len(more[at])+1), none[chance.Intn(len(none))])
			}
		}
		if !slices.Equal(flow.Order(more), flow.Order(less)) || !slices.Equal(flow.Come(more), flow.Come(less)) || !same(flow.Preds(more), flow.Preds(less)) {
			t.Fatalf("%v isn't told of as %v", more, less)
		}
	})
}

// rising answers the numbers from from on, below till.
func rising(from, till int) []int {
	var l []int
	for n := from; n < till; n++ {
		l = append(l, n)
	}
	return l
}

// falling answers 0, and then the numbers below till, from the last one on.
func falling(till int) []int {
	l := rising(1, till)
	slices.Reverse(l)
	return append([]int{0}, l...)
}

// great answers a graph of n points, each of which leads to those that to tells.
func great(n int, to func(at int) []int) graph {
	g := make(graph, n)
	for at := range g {
		g[at] = to(at)
	}
	return g
}

// Long ways, and points that lead to very many, or to which very many lead: all is told soon.
func TestGreatGraphs(t *testing.T) {
	const n = 1 << 19
	all, back := rising(0, n), falling(n)
	for name, c := range map[string]struct {
		to    func(at int) []int
		order []int
	}{
		"forward":       {func(at int) []int { return []int{at + 1} }, all},
		"backward":      {func(at int) []int { return []int{(at + n - 1) % n} }, back},
		"round":         {func(at int) []int { return []int{(at + 1) % n} }, all},
		"to and fro":    {func(at int) []int { return []int{at - 1, at + 1, at} }, all},
		"last one, too": {func(at int) []int { return []int{n - 1, at + 1} }, all},
		"first ones":    {func(at int) []int { return []int{at + 1, at / 2, 0, -1} }, all},
		"one to all": {func(at int) []int {
			if at == 0 {
				return all
			}
			return nil
		}, back},
		"one to all, twice": {func(at int) []int {
			if at == 0 {
				return append(slices.Clone(all), all...)
			}
			return []int{0, 0}
		}, back},
		"all to one": {func(at int) []int { return []int{1} }, []int{0, 1}},
		"alone":      {func(at int) []int { return nil }, []int{0}},
	} {
		g := great(n, c.to)
		if !slices.Equal(flow.Order(g), c.order) {
			t.Errorf("%s: another order", name)
		}
		come := flow.Come(g)
		many := 0
		for _, is := range come {
			if is {
				many++
			}
		}
		if len(come) != n || many != len(c.order) {
			t.Errorf("%s: come to are %d of %d", name, many, len(come))
		}
		from := flow.Preds(g)
		for _, at := range []int{0, 1, 2, n / 2, n - 2, n - 1} {
			for _, to := range g[at] {
				if _, is := slices.BinarySearch(all, to); is && !slices.Contains(from[to], at) {
					t.Errorf("%s: %d isn't told to lead to %d", name, at, to)
				}
			}
			if !slices.IsSorted(from[at]) || len(slices.Compact(from[at])) != len(from[at]) {
				t.Errorf("%s: those that lead to %d aren't rising", name, at)
			}
		}
	}
}

// Of points that all lead to all, each is led to by all.
func TestManySteps(t *testing.T) {
	all := rising(0, 1000)
	g := great(1000, func(int) []int { return all })
	if !slices.Equal(flow.Order(g), all) || !same(flow.Preds(g), g) {
		t.Error("another order, or not led to by all")
	}
}
