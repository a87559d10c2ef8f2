package dom_test

import (
	"slices"
	"testing"

	"lateen/dom"
)

// great answers a graph of n points, each of which leads to those that to tells.
func great(n int, to func(at int) []int) graph {
	g := make(graph, n)
	for at := range g {
		g[at] = to(at)
	}
	return g
}

// rising answers the numbers below till.
func rising(till int) []int {
	l := make([]int, till)
	for n := range l {
		l[n] = n
	}
	return l
}

// but answers one for the number at, and what other answers for all others.
func but[T any](at int, one T, other func(int) T) func(int) T {
	return func(n int) T {
		if n == at {
			return one
		}
		return other(n)
	}
}

// always answers one, whatever it is asked.
func always[T any](one T) func(int) T {
	return func(int) T { return one }
}

// told holds what is told of g, of which near and frontier tell what it must be for each point.
func told(t *testing.T, name string, g graph, near func(at int) int, frontier func(at int) []int) {
	t.Helper()
	up, all := dom.Nearest(g), dom.Frontier(g)
	kids := dom.Kids(up)
	if len(up) != len(g) || len(kids) != len(g) || len(all) != len(g) {
		t.Fatalf("%s: %d, %d, %d of %d points", name, len(up), len(kids), len(all), len(g))
	}
	some, many := 0, 0
	for at := range g {
		if up[at] != near(at) {
			t.Fatalf("%s: the nearest one of %d is %d, not %d", name, at, up[at], near(at))
		}
		if !slices.Equal(all[at], frontier(at)) {
			t.Fatalf("%s: the frontier of %d is %v", name, at, all[at])
		}
		for i, kid := range kids[at] {
			if near(kid) != at || i > 0 && kids[at][i-1] >= kid {
				t.Fatalf("%s: %d is told to be a kid of %d", name, kid, at)
			}
		}
		if near(at) != -1 {
			some++
		}
		many += len(kids[at])
	}
	if many != some {
		t.Errorf("%s: there are %d kids of %d", name, many, some)
	}
}

// Long ways, and points that lead to very many, or to which very many lead: all is told soon.
func TestGreatGraphs(t *testing.T) {
	const n, half = 1 << 18, 1 << 17
	all, nothing := rising(n), always[[]int](nil)
	next := func(at int) []int { return []int{at + 1} }
	ahead := func(at int) int { return at - 1 }
	behind := func(at int) int { return (at + 1) % n }
	for name, c := range map[string]struct {
		to       func(at int) []int
		near     func(at int) int
		frontier func(at int) []int
	}{
		"alone":    {nothing, always(-1), nothing},
		"forward":  {next, ahead, nothing},
		"backward": {but(0, []int{n - 1}, func(at int) []int { return []int{at - 1} }), but(0, -1, behind), always([]int{0})},
		"round":    {func(at int) []int { return []int{(at + 1) % n} }, ahead, always([]int{0})},
		"to and fro": {func(at int) []int { return []int{at - 1, at + 1, at} }, ahead,
			but(0, []int{0}, func(at int) []int { return []int{at - 1, at} })},
		"back to the first one": {func(at int) []int { return []int{at + 1, 0} }, ahead, always([]int{0})},
		"one to all":            {but(0, all, nothing), but(0, -1, always(0)), but(0, []int{0}, nothing)},
		"all to one":            {but(0, all, always([]int{1})), but(0, -1, always(0)), but(0, []int{0}, always([]int{1}))},
		"not come to, to one":   {always([]int{1}), but(1, 0, always(-1)), but(1, []int{1}, nothing)},
		// All points of one long way lead to one.
		"to the last one, too":  {func(at int) []int { return []int{n - 1, at + 1} }, but(n-1, 0, ahead), but(0, nil, always([]int{n - 1}))},
		"to the first one, too": {but(0, []int{1, n - 1}, func(at int) []int { return []int{1, max(1, at-1)} }), but(0, -1, but(1, 0, behind)), but(0, nil, always([]int{1}))},
		// A great round, into which two ways lead.
		"two ways into a round": {but(0, []int{1, half}, func(at int) []int { return []int{at%(n-1) + 1} }), but(half, 0, ahead),
			but(0, nil, func(at int) []int { return []int{half, 1}[at/half : at/half+1] })},
	} {
		told(t, name, great(n, c.to), c.near, c.frontier)
	}
}

// A row that can be gone to and fro, and into both of whose ends a way leads: the order is gone through for nearly each point again.
func TestRowOfManyRounds(t *testing.T) {
	const last = 1 << 11
	for _, ends := range [][]int{{1, last}, {last, 1}} {
		row := func(at int) []int {
			if at == 1 {
				return []int{2}
			}
			return slices.DeleteFunc([]int{at - 1, at + 1}, func(to int) bool { return to > last })
		}
		told(t, "a row", great(last+1, but(0, ends, row)), but(0, -1, always(0)), but(0, nil, row))
	}
}

// All points lead to all: none but 0 dominates another one, and each frontier is all of them.
func TestManySteps(t *testing.T) {
	all := rising(1000)
	told(t, "all to all", great(1000, always(all)), but(0, -1, always(0)), but(0, []int{0}, always(all)))
}

// On a long way, each point dominates all those behind it, the farthest too, and none ahead.
func TestDominatesOnALongWay(t *testing.T) {
	const n = 1 << 18
	near := dom.Nearest(great(n, func(at int) []int { return []int{at + 1} }))
	some := []int{0, 1, 2, n / 2, n - 2, n - 1}
	for _, a := range some {
		for _, b := range some {
			if dom.Dominates(near, a, b) != (a <= b) {
				t.Errorf("does %d dominate %d? %v", a, b, a > b)
			}
		}
	}
}
