package loops_test

import (
	"math"
	"math/rand"
	"slices"
	"testing"

	"lateen/loops"
)

// askedDepth answers for each number below n how many of the loops have it in their Body: each is asked in turn.
func askedDepth(l []loops.Loop, n int) []int {
	var depth []int
	for at := range max(n, 0) {
		many := 0
		for _, one := range l {
			if slices.Contains(one.Body, at) {
				many++
			}
		}
		depth = append(depth, many)
	}
	return depth
}

func TestDepth(t *testing.T) {
	outer, inner := loop(1, []int{1, 2, 3, 4}, []int{4}), loop(2, []int{2, 3}, []int{3})
	for _, c := range []struct {
		l    []loops.Loop
		n    int
		want []int
	}{
		{nil, 3, []int{0, 0, 0}},
		{[]loops.Loop{outer}, 6, []int{0, 1, 1, 1, 1, 0}},
		{[]loops.Loop{outer, inner}, 6, []int{0, 1, 2, 2, 1, 0}},
		{[]loops.Loop{inner, outer}, 6, []int{0, 1, 2, 2, 1, 0}},
		// None, of n below 0 and of 0.
		{[]loops.Loop{outer, inner}, 0, nil},
		{[]loops.Loop{outer, inner}, -1, nil},
		{[]loops.Loop{outer, inner}, -5, nil},
		{[]loops.Loop{outer, inner}, math.MinInt, nil},
		{nil, 0, nil},
		{nil, -1, nil},
		// Fewer numbers than the loops have points, and many more.
		{[]loops.Loop{outer, inner}, 1, []int{0}},
		{[]loops.Loop{outer, inner}, 3, []int{0, 1, 2}},
		{[]loops.Loop{outer, inner}, 4, []int{0, 1, 2, 2}},
		{[]loops.Loop{inner}, 9, []int{0, 0, 1, 1, 0, 0, 0, 0, 0}},
		// Points that are no numbers from 0 to n - 1.
		{[]loops.Loop{loop(0, []int{math.MinInt, -3, -1, 0, 2, 3, 1 << 32, 1<<32 + 1, math.MaxInt}, nil), inner}, 3, []int{1, 0, 2}},
		{[]loops.Loop{loop(7, []int{7}, []int{7})}, 2, []int{0, 0}},
		// The same loop twice, and thrice.
		{[]loops.Loop{inner, inner}, 4, []int{0, 0, 2, 2}},
		{[]loops.Loop{inner, outer, inner, inner}, 5, []int{0, 1, 4, 4, 1}},
		// A loop has a number that stands in its Body twice no more than once.
		{[]loops.Loop{loop(2, []int{2, 2, 1, 2}, nil), inner, loop(1, []int{3, 1, 3}, nil)}, 4, []int{0, 2, 2, 2}},
		// The Body alone tells: neither the head nor what leads back, if they stand outside.
		{[]loops.Loop{loop(0, nil, []int{0, 1}), loop(1, []int{2}, []int{0, 1, 2})}, 3, []int{0, 0, 1}},
		{[]loops.Loop{{}, {}}, 2, []int{0, 0}},
	} {
		if got := loops.Depth(c.l, c.n); !slices.Equal(got, c.want) {
			t.Errorf("%v, %d: the depths are %v", c.l, c.n, got)
		}
	}
}

// anyLoops answers up to six loops as chance has them, whose numbers are of all kinds.
func anyLoops(chance *rand.Rand) []loops.Loop {
	var all []loops.Loop
	some := func() []int {
		var l []int
		for range chance.Intn(6) {
			l = append(l, chance.Intn(8)-1)
			if chance.Intn(9) == 0 {
				l = append(l, noPoint[chance.Intn(len(noPoint))])
			}
		}
		return l
	}
	for range chance.Intn(7) {
		all = append(all, loop(chance.Intn(8)-1, some(), some()))
		if chance.Intn(3) == 0 {
			all = append(all, all[chance.Intn(len(all))])
		}
	}
	return all
}

// Whatever the loops are, those that have a number are counted.
func TestDepthByChance(t *testing.T) {
	chance := rand.New(rand.NewSource(11))
	for range 5000 {
		l, n := anyLoops(chance), chance.Intn(10)-1
		if got, want := loops.Depth(l, n), askedDepth(l, n); !slices.Equal(got, want) {
			t.Fatalf("%v, %d: the depths are %v, not %v", l, n, got, want)
		}
	}
}

// Of more numbers than may be answered nothing is promised, but that the call ends.
func TestDepthBeyondAllBounds(t *testing.T) {
	for _, n := range []int{1 << 31, 1 << 40, 1 << 48, 1 << 60, math.MaxInt - 1, math.MaxInt} {
		loops.Depth([]loops.Loop{loop(1, []int{1, 2}, []int{2})}, n)
		loops.Depth(nil, n)
	}
}
