package machine_test

import (
	"math"
	"slices"
	"strings"
	"testing"

	"lateen/api"
	"lateen/machine"
)

func TestGlobals(t *testing.T) {
	const head = "class P/field a int/global g int/global u float/global h P/global k int/func f int/param k int/var x int/var w float/var p P/block a/"
	for code, want := range map[string]string{
		"ret 1":                                                             "ended 1 globals 0 f0000000000000000 @0 0 steps 1",
		"x = gload g/ret x":                                                 "ended 0 globals 0 f0000000000000000 @0 0 steps 2",
		"gstore g 5/x = gload g/ret x":                                      "ended 5 globals 5 f0000000000000000 @0 0 steps 3",
		"gstore k 5/x = gload g/ret x":                                      "ended 0 globals 0 f0000000000000000 @0 5 steps 3",
		"gstore g k/gstore k 2/x = gload g/ret x":                           "ended 7 globals 7 f0000000000000000 @0 2 steps 4",
		"gstore g 5/gstore g 6/x = gload g/ret x":                           "ended 6 globals 6 f0000000000000000 @0 0 steps 4",
		"gstore u 0f8000000000000000/w = gload u/x = ftoi w/ret x":          "ended 0 globals 0 f8000000000000000 @0 0 steps 4",
		"p = new P/gstore h p/p = gload h/x = load p a/ret x":               "ended 0 obj P(0) globals 0 f0000000000000000 @1 0 allocs 1 steps 5",
		"p = new P/gstore h p/gstore h null/p = gload h/x = load p a/ret x": "trapped 1 at f a 4 k=7 p=@0 obj P(0) globals 0 f0000000000000000 @0 0 allocs 1 steps 5",
		"x = gload g/gstore g 5/ret x":                                      "ended 0 globals 5 f0000000000000000 @0 0 steps 3",
	} {
		hold(t, code, ran(t, head+code, 7), want)
	}
}

// Globals are one for all functions.
func TestGlobalsOfAllFunctions(t *testing.T) {
	s := ran(t, "global g int/func f int/var x int/block a/gstore g 1/x = call h/x = gload g/ret x/func h int/var x int/block a/x = gload g/x = add x 10/gstore g x/ret 0")
	hold(t, "two functions", s, "ended 11 globals 11 steps 8")
}

// Externs are asked with their arguments, in order, and answer what is handed in, one behind the other, and then 0.
func TestExterns(t *testing.T) {
	p := parsed(t, "extern e 2/extern d 0/extern z 8/func f int/param k int/var x int/var y int/block a/x = ext e 1 k/y = ext d/x = ext e y x/y = ext z 1 2 3 4 5 6 7 8/ret y")
	for _, c := range []struct {
		answers []int64
		want    string
	}{
		{nil, "ended 0 e(1 9)0 d()0 e(0 0)0 z(1 2 3 4 5 6 7 8)0 marks 0 0 0 0 steps 5 asked 4"},
		{[]int64{}, "ended 0 e(1 9)0 d()0 e(0 0)0 z(1 2 3 4 5 6 7 8)0 marks 0 0 0 0 steps 5 asked 4"},
		{[]int64{5}, "ended 0 e(1 9)5 d()0 e(0 5)0 z(1 2 3 4 5 6 7 8)0 marks 0 0 0 0 steps 5 asked 4"},
		{[]int64{5, 6}, "ended 0 e(1 9)5 d()6 e(6 5)0 z(1 2 3 4 5 6 7 8)0 marks 0 0 0 0 steps 5 asked 4"},
		{[]int64{5, 6, -7}, "ended 0 e(1 9)5 d()6 e(6 5)-7 z(1 2 3 4 5 6 7 8)0 marks 0 0 0 0 steps 5 asked 4"},
		{[]int64{5, 6, -7, math.MinInt64}, "ended -9223372036854775808 e(1 9)5 d()6 e(6 5)-7 z(1 2 3 4 5 6 7 8)-9223372036854775808 marks 0 0 0 0 steps 5 asked 4"},
		{[]int64{5, 6, -7, math.MaxInt64, 8, 9}, "ended 9223372036854775807 e(1 9)5 d()6 e(6 5)-7 z(1 2 3 4 5 6 7 8)9223372036854775807 marks 0 0 0 0 steps 5 asked 4"},
	} {
		hold(t, numbers(c.answers), machine.Run(p, start(t, p, 9), enough, c.answers, nil), c.want)
	}
}

// The answers go by how many externs were asked, also from one function to another one, and one run to the next.
func TestAnswersGoByHowManyWereAsked(t *testing.T) {
	p := parsed(t, "extern e 1/func f int/var x int/var y int/block a/x = ext e 1/y = call h x/x = ext e y/ret x/func h int/param k int/var x int/block a/x = ext e k/k = ext e x/ret k")
	answers := []int64{10, 20, 30, 40}
	s := start(t, p)
	for _, want := range []string{
		"spent at f a 0",
		"spent at f a 1 x=10 e(1)10 marks 0 steps 1 asked 1",
		"spent at f a 1 x=10 at h a 0 k=10 e(1)10 marks 0 steps 2 asked 1",
		"spent at f a 1 x=10 at h a 1 k=10 x=20 e(1)10 e(10)20 marks 0 0 steps 3 asked 2",
		"spent at f a 1 x=10 at h a 2 k=30 x=20 e(1)10 e(10)20 e(20)30 marks 0 0 0 steps 4 asked 3",
		"spent at f a 2 x=10 y=30 e(1)10 e(10)20 e(20)30 marks 0 0 0 steps 5 asked 3",
		"spent at f a 3 x=40 y=30 e(1)10 e(10)20 e(20)30 e(30)40 marks 0 0 0 0 steps 6 asked 4",
		"ended 40 e(1)10 e(10)20 e(20)30 e(30)40 marks 0 0 0 0 steps 7 asked 4",
	} {
		s = machine.Run(p, s, s.Steps, answers, nil)
		hold(t, "ahead", machine.Run(p, s, s.Steps, nil, nil), told(s))
		hold(t, "asked", s, want)
		s = machine.Run(p, s, s.Steps+1, answers, nil)
	}
}

// What is seen: of numbers and floats, each told as it is, in its order, and marked with how many objects were made ahead of it.
func TestEvents(t *testing.T) {
	s := ran(t, "class P/extern e 1/func f int/param k int/param u float/var p P/var x int/block a/out 1/p = new P/out k/x = ext e 5/p = new P/p = new P/out u/out 0f8000000000000000/x = ext e k/p = new P/out -1/ret 0", 9221120237041090560, nan+1)
	hold(t, "events", s, "ended 0 obj P() obj P() obj P() obj P() (1) (9221120237041090560) e(5)0 (f7ff8000000000000) (f8000000000000000) e(9221120237041090560)0 (-1) marks 0 1 1 3 3 3 4 allocs 4 steps 12 asked 2")
	for at, e := range s.Trace {
		if e.Float != (at == 3 || at == 4) || len(e.Args) != 1 || (e.Name == "e") != (at == 2 || at == 5) {
			t.Error(at, e)
		}
	}
}

func TestGuards(t *testing.T) {
	p := parsed(t, "func f int/param k int/block a/out 0/guard/guard/k = add k 1/guard/jump b/block b/out 1/guard/branch k c d/block c/guard/ret k/block d/trap 12")
	const end = "ended 6 (0) (1) marks 0 0 steps 10 guards 5"
	for _, c := range []struct {
		fails []int64
		want  string
	}{
		{nil, end},
		{[]int64{}, end},
		{[]int64{5, 6, -1, math.MinInt64, math.MaxInt64, 1 << 32}, end},
		{[]int64{0}, "failed at f a 1 k=5 (0) marks 0 steps 2 guards 1"},
		{[]int64{1}, "failed at f a 2 k=5 (0) marks 0 steps 3 guards 2"},
		{[]int64{2}, "failed at f a 4 k=6 (0) marks 0 steps 5 guards 3"},
		{[]int64{3}, "failed at f b 1 k=6 (0) (1) marks 0 0 steps 7 guards 4"},
		{[]int64{4}, "failed at f c 0 k=6 (0) (1) marks 0 0 steps 9 guards 5"},
		{[]int64{4, 2, 3}, "failed at f a 4 k=6 (0) marks 0 steps 5 guards 3"},
		{[]int64{9, 4, 4, 9, 4}, "failed at f c 0 k=6 (0) (1) marks 0 0 steps 9 guards 5"},
	} {
		hold(t, numbers(c.fails), machine.Run(p, start(t, p, 5), enough, nil, c.fails), c.want)
	}
}

// All guards that fail, each passed: one behind the other, and each once; it ends as without any.
func TestGuardsOneBehindTheOther(t *testing.T) {
	p := parsed(t, "func f int/param k int/var x int/block a/jump b/block b/guard/x = call h k/k = sub k 1/branch k b c/block c/ret x/func h int/param k int/block a/guard/k = mul k 2/guard/ret k")
	want := told(machine.Run(p, start(t, p, 3), enough, nil, nil))
	if want != "ended 2 steps 25 guards 9" {
		t.Fatal(want)
	}
	for _, fails := range [][]int64{{0, 1, 2, 3, 4, 5, 6, 7, 8, 9}, {8, 6, 4, 2, 0}, {3}, {3, 3}, {7, 1}} {
		s, failed := start(t, p, 3), 0
		for n := int64(0); n < 9; n++ {
			if !slices.Contains(fails, n) {
				continue
			}
			s = machine.Run(p, s, enough, nil, fails)
			if s.Status != api.Failed || s.Guards != n+1 {
				t.Fatal(fails, n, told(s))
			}
			hold(t, "run again", machine.Run(p, s, enough, nil, nil), told(s))
			s = machine.Pass(s)
			failed++
		}
		hold(t, numbers(fails), machine.Run(p, s, enough, nil, fails), want)
		if failed == 0 {
			t.Error(fails)
		}
	}
}

// What a Guard, or a Call, tells of states means nothing to a run.
func TestStatesMeanNothing(t *testing.T) {
	const text = "class P/field a int/field n P/func f int/param k int/var x int/block a/guardS/x = call h kS/guardS/ret x/func h int/param k int/block a/ret k"
	bare := "ssa/" + strings.ReplaceAll(text, "S", "")
	full := "ssa/" + strings.ReplaceAll(text, "S", "/at f a 0 k k p #0/at f a 0 k 5/obj P k #0/obj P 1 null")
	for _, fails := range [][]int64{nil, {0}, {1}} {
		p, q := parsed(t, bare), parsed(t, full)
		hold(t, full, machine.Run(q, start(t, q, 4), enough, nil, fails), told(machine.Run(p, start(t, p, 4), enough, nil, fails)))
	}
}
