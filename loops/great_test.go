package loops_test

import (
	"slices"
	"testing"

	"lateen/loops"
)

// great answers a graph of n points, each of which leads to those that to tells.
func great(n int, to func(at int) []int) graph {
	g := make(graph, n)
	for at := range g {
		g[at] = to(at)
	}
	return g
}

// numbers answers the numbers from first to last.
func numbers(first, last int) []int {
	var l []int
	for n := first; n <= last; n++ {
		l = append(l, n)
	}
	return l
}

// but answers one for the number at, and what other answers for all others.
func but[T any](at int, one T, other func(int) T) func(int) T {
	return func(n int) T {
		if n == at {
			return one
		}
		return other(n)
	}
}

// always answers one, whatever it is asked.
func always[T any](one T) func(int) T {
	return func(int) T { return one }
}

// eachOf answers what one answers of the numbers below n.
func eachOf[T any](n int, one func(int) T) []T {
	var all []T
	for i := range n {
		all = append(all, one(i))
	}
	return all
}

// told holds what is told of g, and how deep each point of it stands.
func told(t *testing.T, name string, g graph, crossed bool, want []loops.Loop) {
	t.Helper()
	all := loops.All(g)
	if len(all) != len(want) {
		t.Fatalf("%s: there are %d loops, not %d", name, len(all), len(want))
	}
	deep := make([]int, len(g))
	for i, l := range want {
		if !sameLoops(all[i:i+1], want[i:i+1]) {
			t.Fatalf("%s: another loop of %d, of %d points, with %d that lead back, not of %d, %d and %d", name, all[i].Head, len(all[i].Body), len(all[i].Back), l.Head, len(l.Body), len(l.Back))
		}
		for _, at := range l.Body {
			deep[at]++
		}
	}
	if !slices.Equal(loops.Depth(all, len(g)), deep) {
		t.Errorf("%s: other depths", name)
	}
	if loops.Crossed(g) != crossed {
		t.Errorf("%s: is it crossed? %v", name, !crossed)
	}
}

// Long ways round, heads with very many points that lead back to them, and very many loops: all is told soon.
func TestGreatGraphs(t *testing.T) {
	const n, half = 1 << 18, 1 << 17
	all, behind := numbers(0, n-1), numbers(1, n-1)
	next := func(at int) []int { return []int{at + 1} }
	round := func(at int) []int { return []int{(at + 1) % n} }
	alone := func(at int) loops.Loop { return loop(at, []int{at}, []int{at}) }
	for name, c := range map[string]struct {
		to      func(at int) []int
		crossed bool
		want    []loops.Loop
	}{
		"no way round":               {next, false, nil},
		"a long way round":           {round, false, []loops.Loop{loop(0, all, []int{n - 1})}},
		"one the other way":          {func(at int) []int { return []int{(at + n - 1) % n} }, false, []loops.Loop{loop(0, all, []int{1})}},
		"one, not from 0 on":         {but(n-1, []int{1}, next), false, []loops.Loop{loop(1, behind, []int{n - 1})}},
		"all lead back to 0":         {func(at int) []int { return []int{at + 1, 0} }, false, []loops.Loop{loop(0, all, all)}},
		"0 leads to all, and back":   {but(0, all, always([]int{0})), false, []loops.Loop{loop(0, all, all)}},
		"1 leads to all, and back":   {but(0, []int{1}, but(1, behind, always([]int{1}))), false, []loops.Loop{loop(1, behind, behind)}},
		"each leads to itself":       {func(at int) []int { return []int{at, at + 1} }, false, eachOf(n, alone)},
		"0 to all, each to itself":   {but(0, all, func(at int) []int { return []int{at} }), false, eachOf(n, alone)},
		"many, and lead into one":    {but(0, []int{0}, always([]int{0})), false, []loops.Loop{alone(0)}},
		"two ways into a long one":   {but(0, []int{1, half}, func(at int) []int { return []int{at%(n-1) + 1} }), true, nil},
		"one way and its last point": {but(0, []int{1, n - 1}, func(at int) []int { return []int{at%(n-1) + 1} }), true, nil},
		"crossed at the end":         {but(n-3, []int{n - 2, n - 1}, but(n-2, []int{n - 1}, but(n-1, []int{n - 2}, next))), true, nil},
		"not crossed at the end":     {but(n-3, []int{n - 2, n - 1}, but(n-2, []int{n - 1}, but(n-1, nil, next))), false, nil},
		// Ways round of four points each, one behind another, with a point that leads back from the midst.
		"very many loops": {func(at int) []int { return [][]int{{at + 1}, {at - 1, at + 1}, {at + 1, at}, {at - 3, at + 1}}[at%4] }, false,
			slices.Concat(eachOf(n/4, func(i int) []loops.Loop {
				return []loops.Loop{loop(4*i, numbers(4*i, 4*i+3), []int{4*i + 1, 4*i + 3}), alone(4*i + 2)}
			})...)},
	} {
		told(t, name, great(n, c.to), c.crossed, c.want)
	}
}

// A row that can be gone to and fro: each point is the head of a loop that has all behind it.
func TestRowOfLoopsWithinLoops(t *testing.T) {
	const n = 2000
	to := func(at int) []int { return []int{at - 1, at + 1} }
	told(t, "to and fro", great(n, to), false, eachOf(n-1, func(at int) loops.Loop { return loop(at, numbers(at, n-1), []int{at + 1}) }))
	// The last one leads back to all others.
	last := but(n-1, numbers(0, n-1), func(at int) []int { return []int{at + 1} })
	told(t, "the last one to all", great(n, last), false, eachOf(n, func(at int) loops.Loop { return loop(at, numbers(at, n-1), []int{n - 1}) }))
}

// Very many points that can't be come to lead to one of many loops that lie within one another: they aren't looked at for each of these.
func TestManyThatCannotBeComeTo(t *testing.T) {
	const n, many = 500, 1 << 20
	to := func(at int) []int {
		switch {
		case at < n-1:
			return []int{at + 1}
		case at == n-1:
			return numbers(0, n-1)
		}
		return []int{n - 1}
	}
	told(t, "many that can't be come to", great(n+many, to), false, eachOf(n, func(at int) loops.Loop { return loop(at, numbers(at, n-1), []int{n - 1}) }))
}

// All points lead to all: each leads back to 0 and to itself, and is the head of no other one.
func TestManySteps(t *testing.T) {
	const n = 1000
	all := numbers(0, n-1)
	want := eachOf(n, func(at int) loops.Loop { return loop(at, []int{at}, []int{at}) })
	want[0] = loop(0, all, all)
	told(t, "all to all", great(n, always(all)), true, want)
}

// Very many loops, of which each has no more than some numbers, and many numbers that no loop has.
func TestDepthOfVeryMany(t *testing.T) {
	const n = 1 << 20
	l := eachOf(n, func(at int) loops.Loop { return loop(at, []int{at, at + 1, -at, 0}, nil) })
	depth := loops.Depth(l, 2*n)
	for at, many := range depth {
		want := 0
		switch {
		case at == 0:
			want = n
		case at < n:
			want = 2
		case at == n:
			want = 1
		}
		if many != want {
			t.Fatalf("%d stands in %d loops, not in %d", at, many, want)
		}
	}
	if len(depth) != 2*n {
		t.Errorf("there are %d depths", len(depth))
	}
}
