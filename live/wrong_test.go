package live_test

import (
	"math"
	"math/rand"
	"slices"
	"testing"

	"lateen/api"
	"lateen/live"
	"lateen/shape"
)

// Phis aren't asked to be right: on the way from a block each uses all that it is from there, nothing if it is nothing from there; and where no way leads it uses nothing.
func TestPhisThatAreNotRight(t *testing.T) {
	for body, want := range map[string]string{
		"block a/branch k b c/block b/jump d/block c/jump d/block d/phi x c z/ret x":             "k z||z|x",
		"block a/branch k b c/block b/jump d/block c/jump d/block d/phi x b y/ret x":             "k y|y||x",
		"block a/branch k b c/block b/jump d/block c/jump d/block d/phi x a y b z/ret x":         "k z|z||x",
		"block a/branch k b c/block b/jump d/block c/jump d/block d/phi x d y b z c u q v/ret x": "k u z|z|u|x",
		"block a/jump b/block b/phi x a y a z/ret x":                                             "y z|x",
		"block a/jump b/block b/phi x a 1 a z/ret x":                                             "z|x",
		"block a/jump b/block b/phi x a y a y/ret x":                                             "y|x",
		"block a/jump b/block b/phi x q y/ret x":                                                 "|x",
		"block a/jump b/block b/phi x b y/ret x":                                                 "|x",
		// The first block's are never gone over: no way leads there.
		"block a/phi x b y a z/jump b/block b/ret x": "x|x",
		"block a/phi x a y/out x/ret 1":              "x/",
	} {
		f := parsed(t, body)
		if shape.Phis(f) {
			t.Errorf("%s: phis are right", body)
		}
		hold(t, f, read(want))
		hold(t, f, asked(f))
		follows(t, f)
	}
}

// call calls all that there is, of f, at places that there are and that there aren't.
func call(f api.Func) {
	live.Ins(f)
	live.All(f)
	for _, block := range []int{math.MinInt, -1, 0, 1, 2, 3, math.MaxInt} {
		for _, at := range []int{math.MinInt, -1, 0, 1, 2, 3, math.MaxInt} {
			live.At(f, block, at)
		}
	}
}

// Of functions whose shape isn't right nothing is promised, but that calls end.
func TestWrongShapes(t *testing.T) {
	for _, to := range []lists{{}, {{"z"}}, {{"a"}}, {{"a"}, {"a"}}, {{"b", "b"}, nil}, {{"z", "b", "z"}, {"b", "z", "b"}}, {nil, {"a"}}, {{""}, {"", "b"}}, {{"b"}, {"a"}, {"c"}}, {nil, {"c"}, {"b", "a", "c", "b"}}} {
		for _, names := range []string{"abc", "aaa", "aba", "abb", "baa"} {
			f := api.Func{}
			for at, l := range to {
				f.Blocks = append(f.Blocks, api.Block{
					Name: names[at : at+1],
					Phis: []api.Phi{{}, {Dst: "x", Ins: []api.In{{}, {Block: "a", A: variable("x")}, {Block: "b", A: variable("y")}, {Block: "z", A: variable("y")}, {Block: "b"}}}},
					Code: []api.Instr{{}, {Op: api.Mov, Dst: "y", Args: []api.Arg{variable("x"), variable("")}}},
					End:  api.Term{Kind: at, A: variable("z"), To: l},
				})
			}
			call(f)
		}
	}
	call(api.Func{})
	call(api.Func{Blocks: []api.Block{}})
	call(api.Func{Blocks: make([]api.Block, 5)})
	if len(live.Ins(api.Func{}))+len(live.All(api.Func{}))+len(live.At(api.Func{}, 0, 0)) > 0 {
		t.Error("something is told of no blocks")
	}
}

func TestWrongShapesByChance(t *testing.T) {
	wrong := 0
	byChance(5000, func(chance *rand.Rand, f api.Func) {
		for range 1 + chance.Intn(3) {
			b := &f.Blocks[chance.Intn(len(f.Blocks))]
			name := f.Blocks[chance.Intn(len(f.Blocks))].Name
			switch chance.Intn(3) {
			case 0:
				b.Name = name
			case 1:
				b.End.To = append(b.End.To, name)
			case 2:
				b.End.To = slices.Insert(b.End.To, 0, "q")
			}
		}
		if !shape.Right(f) {
			wrong++
		}
		call(f)
	})
	if wrong < 2000 {
		t.Error(wrong)
	}
}
