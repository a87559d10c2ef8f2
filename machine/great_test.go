package machine_test

import (
	"math"
	"strconv"
	"strings"
	"testing"

	"lateen/api"
	"lateen/machine"
)

// Runs as long as there may be, with objects, frames and events that grow all the time, take no longer for what has grown.
func TestLongRuns(t *testing.T) {
	for _, c := range []struct {
		text                string
		heap, frames, trace int
	}{
		{"class P/field a int/field n P/func f int/var p P/block a/p = mov null/jump b/block b/p = new P 1 p/jump b", 1<<20 - 1, 1, 0},
		{"class P/field a int/field n P/func f int/var p P/var q P/var x int/block a/q = new P/p = new P/jump b/block b/store q a 7/x = load q a/p = new P x p/q = load p n/jump b", (1<<20-2)/4 + 2, 1, 0},
		{"func f int/param k int/var x int/block a/k = add k 1/x = call f k/ret x", 0, 1<<19 + 1, 0},
		{"func f int/param k int/block a/jump b/block b/out k/jump b", 0, 1, 1 << 20},
		{"func f int/param k int/var x int/block a/jump b/block b/x = call h k/jump b/func h int/param k int/block a/k = add k 1/k = sub k 2/ret k", 0, 1, 0},
	} {
		p := parsed(t, c.text)
		s := machine.Run(p, start(t, p), math.MaxInt64, nil, nil)
		if s.Status != api.Spent || s.Steps != api.MaxFuel || len(s.Heap) != c.heap || s.Allocs != int64(c.heap) || len(s.Trace) != c.trace || len(s.Marks) != c.trace || len(s.Frames) != c.frames {
			t.Errorf("%s: %d %d %d %d %d", c.text, s.Status, s.Steps, len(s.Heap), len(s.Trace), len(s.Frames))
		}
	}
}

// As many frames as were laid go again, each with what was its own.
func TestDeepCalls(t *testing.T) {
	p := parsed(t, "func f int/param k int/var x int/block a/branch k b c/block b/x = sub k 1/x = call f x/x = add x k/ret x/block c/ret 0")
	const n = 100000
	s := machine.Run(p, start(t, p, n), math.MaxInt64, nil, nil)
	hold(t, "deep", s, "ended "+strconv.Itoa(n*(n+1)/2)+" steps "+strconv.Itoa(5*n+2))
}

// Blocks and phis as many as there may be, gone through again and again.
func TestGreatFunctions(t *testing.T) {
	p := parsed(t, "ssa/func f int/block a/jump d1/"+chain(api.MaxNodes-2, "guard/jump e")+"/block e/jump d1")
	s := machine.Run(p, start(t, p), 1<<16, nil, nil)
	if s.Steps != 1<<16 || s.Status != api.Spent {
		t.Error(told(s))
	}
	const phis = 500
	w := []string{"block a/jump h/block h"}
	for n := range phis {
		w = append(w, "phi x"+strconv.Itoa(n)+" a "+strconv.Itoa(n)+" h x"+strconv.Itoa((n+1)%phis))
	}
	// Each time round, each is what the next one was.
	q := parsed(t, "ssa/"+function("", strings.Join(w, "/")+"/y = ne x0 "+strconv.Itoa(phis-1)+"/branch y h b/block b/ret x7"))
	hold(t, "phis", machine.Run(q, start(t, q), enough, nil, nil), "ended 6 steps 1001")
}
