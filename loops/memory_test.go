package loops_test

import (
	"math/rand"
	"reflect"
	"slices"
	"testing"

	"lateen/loops"
)

// roomy answers a copy of l with spare room, in which there is one more item.
func roomy[T any](l []T, spare T) []T {
	return append(slices.Clone(l), spare)[:len(l)]
}

// whole answers a copy of l, of its spare room too.
func whole(l []int) []int {
	return slices.Clone(l[:cap(l)])
}

// wholeGraph answers a copy of g, of all spare room too.
func wholeGraph(g graph) graph {
	var all graph
	for _, l := range g[:cap(g)] {
		all = append(all, whole(l))
	}
	return all
}

// wholeLoops answers a copy of l, of all spare room too.
func wholeLoops(l []loops.Loop) []loops.Loop {
	var all []loops.Loop
	for _, one := range l[:cap(l)] {
		all = append(all, loop(one.Head, whole(one.Body), whole(one.Back)))
	}
	return all
}

// What is handed in stays as it was, its spare room too; what stands in spare room doesn't count.
func TestGraphsStay(t *testing.T) {
	for spare := -1; spare < 5; spare++ {
		for _, g := range []graph{{{1, 2}, {3}, {3}, nil}, {{0, 0}, {1}, {3}, {2}}, {{2, 5, -1}, {1, 0}, {1, 3, 1}, {2}}, {{1}, {2, 1}, {1, 3}, {0}}, {{2, 1}, {2, 3}, {1}, {1, 0}}} {
			bare := slices.Clone(g)
			for at := range g {
				g[at] = roomy(g[at], spare)
			}
			g = roomy(g, []int{spare, 0, 1})
			ahead := wholeGraph(g)
			hold(t, g)
			if !sameLoops(loops.All(g), loops.All(bare)) || loops.Crossed(g) != loops.Crossed(bare) {
				t.Errorf("%v: something else with %d in spare room", g, spare)
			}
			if now := wholeGraph(g); !reflect.DeepEqual(ahead, now) {
				t.Errorf("it is changed:\n%v\n%v", ahead, now)
			}
		}
	}
}

func TestLoopsStay(t *testing.T) {
	for spare := -1; spare < 8; spare++ {
		l := []loops.Loop{
			loop(1, roomy([]int{4, 1, 3, 2, 3}, spare), roomy([]int{4, 2}, spare)),
			loop(2, roomy([]int{2, 3}, spare), roomy([]int{3}, spare)),
			loop(0, roomy([]int{9, -1, 5}, spare), nil),
		}
		l = roomy(l, loop(spare, []int{spare, 1, 0}, nil))
		ahead := wholeLoops(l)
		if d := loops.Depth(l, 7); !slices.Equal(d, []int{0, 1, 2, 2, 1, 1, 0}) {
			t.Errorf("with %d in spare room the depths are %v", spare, d)
		}
		if now := wholeLoops(l); !reflect.DeepEqual(ahead, now) {
			t.Errorf("it is changed:\n%v\n%v", ahead, now)
		}
	}
}

// apart tells whether no two of these lists share memory: what is laid into one, up to the end of its spare room, isn't seen in another one.
func apart(lists ...[]int) bool {
	for n, l := range lists {
		l = l[:cap(l)]
		for at := range l {
			l[at] = n
		}
	}
	for n, l := range lists {
		for _, m := range l[:cap(l)] {
			if m != n {
				return false
			}
		}
	}
	return true
}

// What is answered is new memory: no list of it is one that was handed in, or another one that was answered, now or ahead.
func TestAnswersAreNewMemory(t *testing.T) {
	ask := func(g graph) {
		l := loops.All(g)
		lists := append([][]int{loops.Depth(l, len(g)), loops.Depth(l, len(g))}, g...)
		for _, one := range append(loops.All(g), l...) {
			lists = append(lists, one.Body, one.Back)
		}
		if !apart(lists...) {
			t.Fatalf("memory is shared, of %d points", len(g))
		}
	}
	byChance(500, 12, 4, func(_ *rand.Rand, g graph) { ask(g) })
	longByChance(500, 20, 12, false, ask)
}

// Two answers of the loops share no memory, either: what is laid into one list of them isn't seen in the other one.
func TestListsOfLoopsAreNewMemory(t *testing.T) {
	g := graph{{0, 1}, {1, 2}, {2, 3}, {3}}
	a, b := loops.All(g), loops.All(g)
	a, b = a[:cap(a)], b[:cap(b)]
	for at := range a {
		a[at] = loops.Loop{Head: -7}
	}
	for _, l := range b {
		if l.Head == -7 {
			t.Error("memory is shared")
		}
	}
}

// What is laid into an answer is seen neither in what was handed in nor in the next answer.
func TestAnswersAreTheCallers(t *testing.T) {
	g := graph{{1}, {2, 0}, {3}, {2, 1, 4}, {1}}
	want := []loops.Loop{loop(0, []int{0, 1, 2, 3, 4}, []int{1}), loop(1, []int{1, 2, 3, 4}, []int{3, 4}), loop(2, []int{2, 3}, []int{3})}
	for range 3 {
		all, depth := loops.All(g), loops.Depth(want, 5)
		if !sameLoops(all, want) || !slices.Equal(depth, []int{1, 2, 3, 3, 2}) || loops.Crossed(g) {
			t.Fatalf("%v %v", all, depth)
		}
		for at, l := range all {
			l.Body[0], l.Back[0] = 7, 7
			all[at] = loop(7, append(l.Body, 7), append(l.Back, 7))
		}
		for at := range depth {
			depth[at] = 7
		}
	}
}
