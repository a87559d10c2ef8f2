package machine_test

import (
	"strconv"
	"strings"
	"testing"

	"lateen/api"
	"lateen/machine"
)

func TestEnds(t *testing.T) {
	const head = "class P/func f int/param k int/var x int/block a/"
	for code, want := range map[string]string{
		"ret 5":                               "ended 5 steps 1",
		"ret -9223372036854775808":            "ended -9223372036854775808 steps 1",
		"ret k":                               "ended 7 steps 1",
		"trap 10":                             "trapped 10 at f a 0 k=7 steps 1",
		"x = mov 3/trap 11":                   "trapped 11 at f a 1 k=7 x=3 steps 2",
		"trap 9223372036854775807":            "trapped 9223372036854775807 at f a 0 k=7 steps 1",
		"jump b/block b/ret 5":                "ended 5 steps 1",
		"jump c/block b/ret 5/block c/jump b": "ended 5 steps 1",
		"x = mov 3/jump b/block b/trap 10":    "trapped 10 at f b 0 k=7 x=3 steps 2",
	} {
		hold(t, code, ran(t, head+code, 7), want)
	}
	for result, values := range map[string][2]string{
		"float": {"0f8000000000000000", "f8000000000000000"},
		"P":     {"null", "@0"},
		"int":   {"-1", "-1"},
	} {
		hold(t, result, ran(t, "class P/func f "+result+"/block a/ret "+values[0]), "ended "+values[1]+" steps 1")
	}
	hold(t, "an object", ran(t, "class P/field a int/func f P/var p P/block a/p = new P/p = new P 4/ret p"), "ended @2 obj P(0) obj P(4) allocs 2 steps 3")
	hold(t, "a float", ran(t, "func f float/param u float/block a/ret u", infinite+1), "ended f7ff8000000000000 steps 1")
}

// A branch goes to the first block where its value isn't 0, whatever else it is.
func TestBranch(t *testing.T) {
	const text = "func f int/param k int/block a/branch A b c/block c/ret 2/block b/ret 1"
	for _, n := range wholes {
		want := "ended 1 steps 2"
		if n == 0 {
			want = "ended 2 steps 2"
		}
		hold(t, number(n), ran(t, strings.Replace(text, "A", "k", 1), n), want)
		hold(t, number(n), ran(t, strings.Replace(text, "A", number(n), 1), 1-n), want)
	}
}

// Where a frame stands when a way was taken: at the first place of the block to which it leads.
func TestPlaces(t *testing.T) {
	p := parsed(t, "func f int/param k int/block a/k = sub k 1/branch k b c/block b/out 1/jump a2/block a2/out k/branch k b c/block c/ret k")
	for fuel, want := range []string{
		"spent at f a 0 k=1",
		"spent at f a 1 k=0 steps 1",
		"spent at f c 0 k=0 steps 2",
		"ended 0 steps 3",
	} {
		hold(t, "1", machine.Run(p, start(t, p, 1), int64(fuel), nil, nil), want)
	}
	for fuel, want := range []string{
		"spent at f a 0 k=2",
		"spent at f a 1 k=1 steps 1",
		"spent at f b 0 k=1 steps 2",
		"spent at f a2 0 k=1 (1) marks 0 steps 3",
		"spent at f a2 1 k=1 (1) (1) marks 0 0 steps 4",
		"spent at f b 0 k=1 (1) (1) marks 0 0 steps 5",
		"spent at f a2 0 k=1 (1) (1) (1) marks 0 0 0 steps 6",
	} {
		hold(t, "2", machine.Run(p, start(t, p, 2), int64(fuel), nil, nil), want)
	}
}

// Calls, step by step: what is handed on, where frames stand, and what comes back.
func TestCalls(t *testing.T) {
	p := parsed(t, "class P/field a int/func f int/param k int/var x int/var o P/block a/o = new P 3/x = call g k 0f8000000000000000 o null/x = add x 1/ret x/func g int/param i int/param u float/param p P/param q P/var x int/block s/jump t/block t/x = load p a/i = call h i x/store p a i/ret i/func h int/param a int/param b int/block a/a = sub a b/ret a")
	for fuel, want := range []string{
		"spent at f a 0 k=9",
		"spent at f a 1 k=9 o=@1 obj P(3) allocs 1 steps 1",
		"spent at f a 1 k=9 o=@1 at g t 0 i=9 p=@1 q=@0 u=f8000000000000000 obj P(3) allocs 1 steps 2",
		"spent at f a 1 k=9 o=@1 at g t 1 i=9 p=@1 q=@0 u=f8000000000000000 x=3 obj P(3) allocs 1 steps 3",
		"spent at f a 1 k=9 o=@1 at g t 1 i=9 p=@1 q=@0 u=f8000000000000000 x=3 at h a 0 a=9 b=3 obj P(3) allocs 1 steps 4",
		"spent at f a 1 k=9 o=@1 at g t 1 i=9 p=@1 q=@0 u=f8000000000000000 x=3 at h a 1 a=6 b=3 obj P(3) allocs 1 steps 5",
		"spent at f a 1 k=9 o=@1 at g t 2 i=6 p=@1 q=@0 u=f8000000000000000 x=3 obj P(3) allocs 1 steps 6",
		"spent at f a 1 k=9 o=@1 at g t 3 i=6 p=@1 q=@0 u=f8000000000000000 x=3 obj P(6) allocs 1 steps 7",
		"spent at f a 2 k=9 o=@1 x=6 obj P(6) allocs 1 steps 8",
		"spent at f a 3 k=9 o=@1 x=7 obj P(6) allocs 1 steps 9",
		"ended 7 obj P(6) allocs 1 steps 10",
	} {
		s := machine.Run(p, start(t, p, 9), int64(fuel), nil, nil)
		hold(t, "fuel "+strconv.Itoa(fuel), s, want)
	}
}

// A function that calls itself has a frame, and variables, for each time.
func TestFunctionsThatCallThemselves(t *testing.T) {
	p := parsed(t, "func f int/param n int/var x int/var m int/block a/x = lt n 2/branch x b c/block b/ret n/block c/m = sub n 1/x = call f m/m = sub n 2/m = call f m/x = add x m/ret x")
	for n, want := range []int64{0, 1, 1, 2, 3, 5, 8, 13, 21, 34, 55} {
		s := machine.Run(p, start(t, p, int64(n)), enough, nil, nil)
		if s.Status != api.Ended || s.Result != (api.Val{Type: "int", N: want}) || len(s.Frames) != 0 {
			t.Error(n, told(s))
		}
	}
	hold(t, "within", machine.Run(p, start(t, p, 3), 9, nil, nil), "spent at f c 1 m=2 n=3 x=0 at f c 1 m=1 n=2 x=0 at f a 1 n=1 x=1 steps 9")
	q := parsed(t, "func f int/param n int/var x int/block a/branch n b c/block b/n = sub n 1/x = call g n/ret x/block c/trap 13/func g int/param n int/var x int/block a/branch n b c/block b/n = sub n 1/x = call f n/ret x/block c/ret 8")
	hold(t, "one by the other", machine.Run(q, start(t, q, 5), enough, nil, nil), "ended 8 steps 22")
	hold(t, "one by the other", machine.Run(q, start(t, q, 4), enough, nil, nil), "trapped 13 at f b 1 n=3 at g b 1 n=2 at f b 1 n=1 at g b 1 n=0 at f c 0 n=0 steps 14")
}

// Results of each type come into variables of each type.
func TestResults(t *testing.T) {
	s := ran(t, "class P/field a int/func f int/var x int/var u float/var p P/var q P/block a/x = call i/u = call w/p = call n/q = call o/out x/out u/x = same p null/out x/x = load q a/ret x/func i int/block a/ret -4/func w float/block a/ret 0f8000000000000000/func n P/block a/ret null/func o P/var p P/block a/p = new P 6/ret p")
	hold(t, "results", s, "ended 6 obj P(6) (-4) (f8000000000000000) (1) marks 1 1 1 allocs 1 steps 15")
}

// A frame's own variables are neither those of another one nor what they were when the function was called ahead of this.
func TestVariablesOfFrames(t *testing.T) {
	p := parsed(t, "func f int/param x int/var y int/block a/y = call h 1/x = call h 2/guard/ret x/func h int/param x int/var y int/block a/guard/y = mov 5/ret y")
	s := machine.Run(p, start(t, p, 9), enough, nil, []int64{0, 1, 2})
	hold(t, "first", s, "failed at f a 0 x=9 at h a 0 x=1 steps 2 guards 1")
	s = machine.Run(p, machine.Pass(s), enough, nil, []int64{0, 1, 2})
	hold(t, "second", s, "failed at f a 1 x=9 y=5 at h a 0 x=2 steps 6 guards 2")
	s = machine.Run(p, machine.Pass(s), enough, nil, []int64{0, 1, 2})
	hold(t, "third", s, "failed at f a 2 x=5 y=5 steps 9 guards 3")
}

// Phis are told by the variables as they were on the way, all at once, and by the block that is left.
func TestPhis(t *testing.T) {
	for text, want := range map[string]string{
		"block a/jump b/block b/phi x a 4/ret x":                                         "ended 4 steps 1",
		"block a/branch k b c/block b/jump d/block c/jump d/block d/phi x b 1 c 2/ret x": "ended 1 steps 2",
		"block a/branch z b c/block b/jump d/block c/jump d/block d/phi x b 1 c 2/ret x": "ended 2 steps 2",
		"block a/branch z b c/block b/jump d/block c/jump d/block d/phi x c 2 b 1/ret x": "ended 2 steps 2",
		"block a/branch z b c/block b/trap 10/block c/phi x a k/ret x":                   "ended 3 steps 2",
		"block a/branch k b c/block b/phi x a z/ret x/block c/trap 10":                   "ended 0 steps 2",
		// They take one another's values.
		"block a/jump h/block h/phi x a 1 h y/phi y a 2 h x/phi n a k h m/m = sub n 1/out x/branch m h b/block b/ret y":               "ended 2 (1) (2) (1) marks 0 0 0 steps 10",
		"block a/jump h/block h/phi x h y a 1/phi y h w a 2/phi w h x a 3/phi n a k h m/m = sub n 1/out x/branch m h b/block b/ret y": "ended 1 (1) (2) (3) marks 0 0 0 steps 10",
		// One that another one takes ahead of it, and behind it.
		"block a/jump h/block h/phi w a 9 h v/phi v a 1 h m/phi u a 8 h v/phi n a k h m/m = sub n 1/out u/out w/branch m h b/block b/ret v": "ended 1 (8) (9) (1) (1) (2) (2) marks 0 0 0 0 0 0 steps 13",
	} {
		hold(t, text, ran(t, "ssa/"+function("k z", text), 3, 0), want)
	}
}

// function answers the function f with these parameters, these blocks, and all variables that are set in them, each of which is an int.
func function(params, blocks string) string {
	text := "func f int"
	for _, name := range strings.Fields(params) {
		text += "/param " + name + " int"
	}
	for _, line := range strings.Split(blocks, "/") {
		words := strings.Fields(line)
		if words[0] == "phi" {
			text += "/var " + words[1] + " int"
		} else if len(words) > 1 && words[1] == "=" {
			text += "/var " + words[0] + " int"
		}
	}
	return text + "/" + blocks
}
