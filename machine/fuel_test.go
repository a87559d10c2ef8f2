package machine_test

import (
	"fmt"
	"math"
	"slices"
	"strconv"
	"strings"
	"testing"

	"lateen/api"
	"lateen/machine"
)

// round answers blocks c0, c1, .. of which each jumps to the next one, and the last one to the first.
func round(n int) string {
	var w []string
	for at := range n {
		w = append(w, fmt.Sprintf("block c%d/jump c%d", at, (at+1)%n))
	}
	return strings.Join(w, "/")
}

// chain answers blocks d1, d2, .. of which each jumps to the next one, and the last one does what it is told.
func chain(n int, last string) string {
	var w []string
	for at := 1; at < n; at++ {
		w = append(w, fmt.Sprintf("block d%d/jump d%d", at, at+1))
	}
	return strings.Join(append(w, fmt.Sprintf("block d%d/%s", n, last)), "/")
}

// As many Jumps as a function may have, one behind the other, cost nothing.
func TestJumpsCostNothing(t *testing.T) {
	for n := 1; n < api.MaxNodes; n++ {
		p := parsed(t, "ssa/func f int/block a/jump d1/"+chain(n, "ret 5"))
		for _, fuel := range []int64{1, 2, enough} {
			hold(t, strconv.Itoa(n), machine.Run(p, start(t, p), fuel, nil, nil), "ended 5 steps 1")
		}
		for _, fuel := range []int64{0, -1, math.MinInt64} {
			hold(t, strconv.Itoa(n), machine.Run(p, start(t, p), fuel, nil, nil), fmt.Sprintf("spent at f d%d 0", n))
		}
	}
}

// A way round on which nothing costs anything is gone for MaxNodes Jumps, in each run anew: where it stops tells how many there were.
func TestJumpsWithoutAnEnd(t *testing.T) {
	for n := 1; n < api.MaxNodes; n++ {
		p := parsed(t, "ssa/func f int/block a/jump c0/"+round(n))
		for _, fuel := range []int64{0, 1, -1, enough, math.MaxInt64, math.MinInt64} {
			s := start(t, p)
			for again := 1; again <= 3; again++ {
				s = machine.Run(p, s, fuel, nil, nil)
				hold(t, strconv.Itoa(n), s, fmt.Sprintf("spent at f c%d 0", (again*api.MaxNodes-1)%n))
			}
		}
	}
}

// Each Jump of such a way is a whole one: phis are told by each.
func TestJumpsToItself(t *testing.T) {
	const text = "block a/jump h/block h/phi x a 0 h y/phi y a 1 h z/phi z a 2 h x/jump h"
	p := parsed(t, "ssa/"+function("", text))
	s := start(t, p)
	// 255 times round, then 256 times more, modulo 3.
	for _, want := range []string{"x=0 y=1 z=2", "x=1 y=2 z=0", "x=2 y=0 z=1", "x=0 y=1 z=2"} {
		s = machine.Run(p, s, 0, nil, nil)
		hold(t, text, s, "spent at f h 0 "+want)
	}
}

// Jumps are counted from the last step on that costs 1, whatever it is.
func TestJumpsSinceAStep(t *testing.T) {
	for _, last := range []string{"guard/jump c0", "x = mov 1/jump c0", "x = call h/jump c0", "branch 1 c0 e"} {
		for _, n := range []int{1, 2, 100, 150} {
			for _, length := range []int{3, 97} {
				text := fmt.Sprintf("block a/jump d1/%s/%s", chain(n, last), round(length))
				if strings.HasPrefix(last, "branch") {
					text += "/block e/ret 1"
				}
				p := parsed(t, "ssa/"+function("", text)+"/func h int/block a/jump b/block b/ret 1")
				ahead := machine.Run(p, start(t, p), 0, nil, nil)
				hold(t, text, ahead, fmt.Sprintf("spent at f d%d 0", n))
				want := fmt.Sprintf("c%d", (api.MaxNodes-1)%length)
				if strings.HasPrefix(last, "branch") {
					// It leads there itself, and is no Jump.
					want = fmt.Sprintf("c%d", api.MaxNodes%length)
				}
				for _, s := range []api.State{start(t, p), ahead} {
					s = machine.Run(p, s, enough, nil, nil)
					if s.Status != api.Spent || s.Frames[0].Block != want || s.Frames[0].At != 0 || s.Steps == 0 {
						t.Errorf("%s: %s, not %s", text, told(s), want)
					}
				}
			}
		}
	}
}

// Ways round with a step on them, and as many Jumps as there may be, are gone as far as the fuel reaches.
func TestJumpsWithSteps(t *testing.T) {
	for _, n := range []int{1, 2, 127, 128, 254} {
		p := parsed(t, "ssa/func f int/block a/jump d1/"+chain(n, "guard/jump e")+"/block e/jump d1")
		for _, fuel := range []int64{0, 1, 2, 3, 1000} {
			s := machine.Run(p, start(t, p), fuel, nil, nil)
			hold(t, strconv.Itoa(n), s, told(api.State{Status: api.Spent, Frames: []api.Live{{Func: "f", Block: fmt.Sprintf("d%d", n)}}, Steps: fuel, Guards: fuel}))
		}
	}
}

// runs are programs that are run as long as they may, each with what is handed in.
var runs = []struct {
	text           string
	args           []int64
	answers, fails []int64
}{
	{"func f int/block a/ret 1", nil, nil, nil},
	{"func f int/block a/guard/trap 12", nil, nil, []int64{0}},
	{"func f int/block a/jump b/block b/jump c/block c/out 1/jump d/block d/ret 3", nil, nil, nil},
	{"func f int/param k int/var x int/block a/jump b/block b/out k/guard/k = sub k 1/branch k b c/block c/x = div 1 k/ret x", []int64{4}, nil, []int64{1, 3}},
	{"extern e 1/func f int/param k int/var x int/block a/x = ext e k/jump b/block b/x = ext e x/guard/branch x b c/block c/ret k", []int64{4}, []int64{3, 2, 1, 1}, []int64{0, 2}},
	{"class P/field a int/field n P/global g P/extern e 1/func f P/param k int/var p P/var x int/block a/x = call g k/p = gload g/x = load p a/out x/guard/ret p/func g int/param k int/var p P/var q P/var x int/block a/p = new P k null/q = gload g/store p n q/gstore g p/guard/x = ext e k/k = sub k 1/branch k b c/block b/x = call g k/ret x/block c/p = mov null/store p a 1/ret x", []int64{3}, []int64{9, 8}, []int64{0, 1, 2}},
	{"class P/field a int/field n P/global g P/extern e 1/func f P/param k int/var p P/var x int/block a/x = call g k/p = gload g/x = load p a/out x/guard/ret p/func g int/param k int/var p P/var q P/var x int/block a/p = new P k null/q = gload g/store p n q/gstore g p/guard/x = ext e k/k = sub k 1/branch k b c/block b/x = call g k/ret x/block c/ret x", []int64{3}, []int64{9, 8}, []int64{3, 1}},
	{"func f float/param u float/var x int/block a/u = fmul u 0f4000000000000000/out u/x = flt u 0f4050000000000000/branch x b c/block b/jump a2/block a2/u = fadd u u/guard/x = fle u 0f4040000000000000/branch x a3 c/block a3/u = call h u/jump a2/block c/ret u/func h float/param u float/block a/out u/guard/u = fsub u 0f3ff0000000000000/ret u", []int64{one}, nil, []int64{1}},
}

// states answers that of each fuel from 0 on, run at once, up to the first one that is over.
func states(t *testing.T, p api.Program, s api.State, answers, fails []int64) []api.State {
	t.Helper()
	var l []api.State
	for fuel := int64(0); fuel < 300; fuel++ {
		l = append(l, machine.Run(p, s, fuel, answers, fails))
		if l[fuel].Status != api.Spent {
			return l
		}
	}
	t.Fatal("it doesn't end")
	return l
}

// With each fuel a run has done as many steps, and with as many as it needs it ends; more of it changes nothing.
func TestFuel(t *testing.T) {
	for _, r := range runs {
		p := parsed(t, r.text)
		s := start(t, p, r.args...)
		l := states(t, p, s, r.answers, nil)
		last := l[len(l)-1]
		for fuel, state := range l {
			if state.Steps != int64(fuel) || (state.Status == api.Spent) != (fuel < len(l)-1) || state.Status == api.Failed {
				t.Errorf("%s, fuel %d: %s", r.text, fuel, told(state))
			}
		}
		for _, more := range []int64{last.Steps + 1, last.Steps + 2, enough, api.MaxFuel - 1, api.MaxFuel, api.MaxFuel + 1, math.MaxInt32 + 1, 1 << 40, math.MaxInt64} {
			hold(t, r.text, machine.Run(p, s, more, r.answers, nil), told(last))
		}
		for _, less := range []int64{-1, -2, -last.Steps, math.MinInt32, math.MinInt64, math.MinInt64 + 1} {
			hold(t, r.text, machine.Run(p, s, less, r.answers, nil), told(l[0]))
		}
	}
}

// Beyond MaxFuel there is no more: a run that needs just as much ends, one that needs a step more doesn't.
func TestMaxFuel(t *testing.T) {
	const text = "func f int/param k int/var x int/block a/x = mov 0/jump b/block b/k = sub k 1/branch k b c/block c/"
	const rounds = (api.MaxFuel - 2) / 2
	p, q := parsed(t, text+"ret 1"), parsed(t, text+"x = mov 1/ret x")
	for _, fuel := range []int64{api.MaxFuel, api.MaxFuel + 1, api.MaxFuel + 2, 2 * api.MaxFuel, math.MaxInt32 + 1, math.MaxInt64} {
		hold(t, "just enough", machine.Run(p, start(t, p, rounds), fuel, nil, nil), "ended 1 steps 1048576")
		s := machine.Run(q, start(t, q, rounds), fuel, nil, nil)
		hold(t, "one too few", s, "spent at f c 1 k=0 x=1 steps 1048576")
		hold(t, "again", machine.Run(q, s, fuel, nil, nil), told(s))
	}
	s := machine.Run(p, start(t, p, rounds), api.MaxFuel-1, nil, nil)
	hold(t, "one less", s, "spent at f c 0 k=0 x=0 steps 1048575")
	hold(t, "one more", machine.Run(p, s, math.MaxInt64, nil, nil), "ended 1 steps 1048576")
	s = machine.Run(p, start(t, p, rounds+1), math.MaxInt64, nil, nil)
	hold(t, "a round more", s, "spent at f b 1 k=0 x=0 steps 1048576")
	hold(t, "a round more, less fuel", machine.Run(p, s, 5, nil, nil), told(s))
}

// Run with some fuel, and then with more, it is as run with more at once; with less, or as much, nothing changes.
func TestTwoPieces(t *testing.T) {
	for _, r := range runs {
		p := parsed(t, r.text)
		s := start(t, p, r.args...)
		for _, fails := range [][]int64{nil, r.fails} {
			l := states(t, p, s, r.answers, fails)
			for one := range l {
				for other := range l {
					hold(t, r.text, machine.Run(p, l[one], int64(other), r.answers, fails), told(l[max(one, other)]))
				}
				hold(t, r.text, machine.Run(p, l[one], math.MaxInt64, r.answers, fails), told(l[len(l)-1]))
				for _, less := range []int64{-1, -1 - int64(one), math.MinInt64, math.MinInt64 + 1, math.MinInt64 + int64(one)} {
					hold(t, r.text, machine.Run(p, l[one], less, r.answers, fails), told(l[one]))
				}
			}
		}
	}
}

// Run piece by piece, of each length, over guards that fail, it ends as run at once where none fails; and what was seen stays.
func TestPieces(t *testing.T) {
	for _, r := range runs {
		p := parsed(t, r.text)
		s := start(t, p, r.args...)
		want := machine.Run(p, s, enough, r.answers, nil)
		for length := int64(1); length <= want.Steps+1; length++ {
			at, failed := s, []int64(nil)
			for fuel := int64(0); at.Status == api.Runs || at.Status == api.Spent; fuel += length {
				seen := at
				at = machine.Run(p, at, fuel, r.answers, r.fails)
				if at.Status == api.Failed {
					failed = append(failed, at.Guards-1)
					at = machine.Pass(at)
				}
				begins(t, r.text, at, seen)
			}
			hold(t, r.text, at, told(want))
			all := slices.DeleteFunc(slices.Sorted(slices.Values(r.fails)), func(n int64) bool { return n >= want.Guards })
			if !slices.Equal(failed, all) {
				t.Errorf("%s: %v failed, not %v", r.text, failed, all)
			}
		}
	}
}

// begins tells a fault, if what ahead has seen isn't what s has seen first.
func begins(t *testing.T, what string, s, ahead api.State) {
	t.Helper()
	n := len(ahead.Trace)
	if len(s.Trace) < n || len(s.Marks) != len(s.Trace) || len(ahead.Marks) != n || told(api.State{Trace: s.Trace[:n], Marks: s.Marks[:n]}) != told(api.State{Trace: ahead.Trace, Marks: ahead.Marks}) {
		t.Errorf("%s: it isn't as it was seen:\n%s\nand\n%s", what, told(ahead), told(s))
	}
}

// A state that neither Runs nor is Spent stays, whatever it is run with, and of whatever program.
func TestStatesThatStay(t *testing.T) {
	for _, r := range runs {
		p := parsed(t, r.text)
		l := states(t, p, start(t, p, r.args...), r.answers, r.fails)
		s := l[len(l)-1]
		for _, s.Status = range []int{api.Ended, api.Trapped, api.Failed, 5, 6, -1, math.MaxInt, math.MinInt} {
			for _, fuel := range []int64{math.MinInt64, -1, 0, s.Steps, s.Steps + 1, enough, math.MaxInt64} {
				for _, p := range []api.Program{p, {}} {
					got := machine.Run(p, s, fuel, r.answers, nil)
					if told(got) != told(s) || got.Status != s.Status {
						t.Errorf("%s: %s, not %s", r.text, told(got), told(s))
					}
				}
			}
		}
	}
}

// A state that is Spent is gone on with as one that Runs.
func TestSpentIsGoneOnWith(t *testing.T) {
	for _, r := range runs {
		p := parsed(t, r.text)
		s := start(t, p, r.args...)
		for _, fuel := range []int64{-1, 0, 1, 2, 3, 4, enough} {
			want := told(machine.Run(p, s, fuel, r.answers, nil))
			spent := s
			spent.Status = api.Spent
			hold(t, r.text, machine.Run(p, spent, fuel, r.answers, nil), want)
		}
	}
}
