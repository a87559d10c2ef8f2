package dom_test

import (
	"math/rand"
	"reflect"
	"slices"
	"testing"

	"lateen/dom"
)

// roomy answers a copy of l with spare room, in which there is one more item.
func roomy[T any](l []T, spare T) []T {
	return append(slices.Clone(l), spare)[:len(l)]
}

// whole answers a copy of l, of its spare room too.
func whole(l []int) []int {
	return slices.Clone(l[:cap(l)])
}

// wholeGraph answers a copy of g, of all spare room too.
func wholeGraph(g graph) graph {
	var all graph
	for _, l := range g[:cap(g)] {
		all = append(all, whole(l))
	}
	return all
}

// What is handed in stays as it was, its spare room too; what stands in spare room doesn't count.
func TestGraphsStay(t *testing.T) {
	for spare := -1; spare < 5; spare++ {
		for _, g := range []graph{{{1, 2}, {3}, {3}, nil}, {{0, 0}, {1}, {3}, {2}}, {{2, 5, -1}, {1, 0}, {1, 3, 1}, {2}}, {{1}, {2, 1}, {1, 3}, {0}}} {
			bare := slices.Clone(g)
			for at := range g {
				g[at] = roomy(g[at], spare)
			}
			g = roomy(g, []int{spare, 0, 1})
			ahead := wholeGraph(g)
			hold(t, g)
			if !slices.Equal(dom.Nearest(g), dom.Nearest(bare)) || !same(dom.Frontier(g), dom.Frontier(bare)) {
				t.Errorf("%v: something else with %d in spare room", g, spare)
			}
			if now := wholeGraph(g); !reflect.DeepEqual(ahead, now) {
				t.Errorf("it is changed:\n%v\n%v", ahead, now)
			}
		}
	}
}

func TestNearestOnesStay(t *testing.T) {
	for spare := -1; spare < 8; spare++ {
		near := roomy([]int{-1, 0, 1, 1, -1, 3, 1}, spare)
		ahead := whole(near)
		if l := dom.Kids(near); !same(l, graph{{1}, {2, 3, 6}, nil, {5}, nil, nil, nil}) {
			t.Errorf("with %d in spare room the kids are %v", spare, l)
		}
		for a := -1; a < 9; a++ {
			for b := -1; b < 9; b++ {
				want := b == a && a >= 0 && a < 7 || a == 0 && b > 0 && b < 7 && b != 4 || a == 1 && slices.Contains([]int{2, 3, 5, 6}, b) || a == 3 && b == 5
				if b != 4 && dom.Dominates(near, a, b) != want {
					t.Errorf("with %d in spare room: does %d dominate %d? %v", spare, a, b, !want)
				}
			}
		}
		if now := whole(near); !slices.Equal(ahead, now) {
			t.Errorf("it is changed:\n%v\n%v", ahead, now)
		}
	}
}

// apart tells whether no two of these lists share memory: what is laid into one, up to the end of its spare room, isn't seen in another one.
func apart(lists ...[]int) bool {
	for n, l := range lists {
		l = l[:cap(l)]
		for at := range l {
			l[at] = n
		}
	}
	for n, l := range lists {
		for _, m := range l[:cap(l)] {
			if m != n {
				return false
			}
		}
	}
	return true
}

// What is answered is new memory: no list of it is one that was handed in, or another one that was answered, now or ahead.
func TestAnswersAreNewMemory(t *testing.T) {
	byChance(500, 12, 4, func(_ *rand.Rand, g graph) {
		near := dom.Nearest(g)
		lists := [][]int{near, dom.Nearest(g)}
		for range 2 {
			lists = append(lists, dom.Kids(near)...)
			lists = append(lists, dom.Frontier(g)...)
		}
		if !apart(append(lists, g...)...) {
			t.Fatalf("memory is shared, of %d points", len(g))
		}
	})
}

// What is laid into an answer is seen neither in what was handed in nor in the next answer.
func TestAnswersAreTheCallers(t *testing.T) {
	g, near := graph{{1}, {2, 3}, {4}, {4}, {1, 0}, {4}}, []int{-1, 0, 1, 1, 1, -1}
	for range 3 {
		told, kids, frontier := dom.Nearest(g), dom.Kids(near), dom.Frontier(g)
		if !slices.Equal(told, near) || !same(kids, graph{{1}, {2, 3, 4}, nil, nil, nil, nil}) || !same(frontier, graph{{0}, {0, 1}, {4}, {4}, {0, 1}, nil}) {
			t.Fatalf("%v %v %v", told, kids, frontier)
		}
		for at := range g {
			told[at], kids[at], frontier[at] = 7, append(kids[at], 7), append(frontier[at], 7)
			kids[at][0], frontier[at][0] = 7, 7
		}
	}
}
