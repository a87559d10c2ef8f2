package assign_test

import (
	"math/rand"
	"slices"
	"testing"

	"lateen/api"
	"lateen/assign"
	"lateen/shape"
)

// Phis aren't asked to be right: on the way from a block each uses all that it is from there, nothing if it is nothing from there; and where no way leads it uses nothing.
func TestPhisThatAreNotRight(t *testing.T) {
	for body, want := range map[string]struct {
		ins   string
		right bool
	}{
		"param k int/block a/branch k b c/block b/jump d/block c/jump d/block d/phi x c k/ret x":                       {"k|k|k|k x", true},
		"param k int/block a/branch k b c/block b/jump d/block c/jump d/block d/phi x c y/ret x":                       {"k|k|k|k x", false},
		"param k int/block a/branch k b c/block b/z = mov 1/jump d/block c/jump d/block d/phi x b z a y/ret x":         {"k|k|k|k x", true},
		"param k int/block a/branch k b c/block b/z = mov 1/jump d/block c/jump d/block d/phi x d y b z c k q v/ret x": {"k|k|k|k x", true},
		"param k int/block a/jump b/block b/phi x a k a y/ret x":                                                       {"k|k x", false},
		"param k int/block a/jump b/block b/phi x a y a k/ret x":                                                       {"k|k x", false},
		"param k int/block a/jump b/block b/phi x a k a k/ret x":                                                       {"k|k x", true},
		"param k int/block a/jump b/block b/phi x q y/ret x":                                                           {"k|k x", true},
		"param k int/block a/jump b/block b/phi x b x/phi y b z/ret x":                                                 {"k|k x y", true},
		"param k int/block a/branch k b c/block b/jump d/block c/jump d/block d/phi x b k/phi y c k/z = add x y/ret z": {"k|k|k|k x y", true},
		"param k int/block a/jump b/block b/phi x a 1 c y/branch k b c/block c/y = mov 1/ret x":                        {"k|k x|k x", true},
		// The first block's are never gone over: no way leads there.
		"param k int/block a/phi x b y a z/jump b/block b/ret k": {"k|k", true},
		"param k int/block a/phi x b k/jump b/block b/ret x":     {"k|k", false},
		"param k int/block a/phi x a k/out x/ret 1":              {"k", false},
	} {
		f := parsed(t, body)
		if shape.Phis(f) {
			t.Errorf("%s: phis are right", body)
		}
		hold(t, f, read(want.ins), want.right)
		holdAsked(t, f)
		follows(t, f)
	}
}

// Of a function to whose first block others lead nothing is promised; by the words, what is set at its first place is what is set before any way is gone: parameters alone.
func TestFirstBlockToWhichOthersLead(t *testing.T) {
	for body, want := range map[string]struct {
		ins   string
		right bool
	}{
		"block a/jump a":                                 {"", true},
		"param k int/block a/x = mov k/jump a":           {"k", true},
		"param k int/block a/out x/x = mov k/jump a":     {"k", false},
		"param k int/block a/branch k a b/block b/ret k": {"k|k", true},
		"param k int/block a/x = mov 1/branch k b c/block b/y = mov x/jump a/block c/ret x": {"k|k x|k x", true},
		"param k int/block a/x = mov 1/branch k b c/block b/y = mov x/jump a/block c/ret y": {"k|k x|k x", false},
		"param k int/block a/jump b/block b/x = mov k/branch x a c/block c/ret x":           {"k|k|k x", true},
	} {
		f := parsed(t, body)
		if shape.Right(f) {
			t.Errorf("%s: the shape is right", body)
		}
		if got := assign.Ins(f); !slices.EqualFunc(got, read(want.ins), slices.Equal[[]string]) || assign.Right(f) != want.right {
			t.Errorf("%s: %q, %t", body, got, !want.right)
		}
	}
}

// Of functions whose shape isn't right nothing is promised, but that calls end.
func TestWrongShapes(t *testing.T) {
	for _, to := range [][][]string{{}, {{"z"}}, {{"a"}}, {{"a"}, {"a"}}, {{"b", "b"}, nil}, {{"z", "b", "z"}, {"b", "z", "b"}}, {nil, {"a"}}, {{""}, {"", "b"}}, {{"b"}, {"a"}, {"c"}}, {nil, {"c"}, {"b", "a", "c", "b"}}} {
		for _, names := range []string{"abc", "aaa", "aba", "abb", "baa"} {
			f := api.Func{Params: params("x")}
			for at, l := range to {
				f.Blocks = append(f.Blocks, api.Block{
					Name: names[at : at+1],
					Phis: []api.Phi{{}, {Dst: "x", Ins: []api.In{{}, {Block: "a", A: variable("x")}, {Block: "b", A: variable("y")}, {Block: "z", A: variable("y")}, {Block: "b"}}}},
					Code: []api.Instr{{}, {Op: api.Mov, Dst: "y", Args: []api.Arg{variable("x"), variable("")}}},
					End:  api.Term{Kind: at, A: variable("z"), To: l},
				})
			}
			assign.Ins(f)
			assign.Right(f)
		}
	}
	for _, f := range []api.Func{{}, {Blocks: []api.Block{}}, {Params: params("x", "")}, {Blocks: make([]api.Block, 5)}} {
		if len(assign.Ins(f)) > 0 && len(f.Blocks) == 0 {
			t.Errorf("something is told of no blocks: %+v", f)
		}
		assign.Right(f)
	}
}

func TestWrongShapesByChance(t *testing.T) {
	wrong := 0
	byChance(5000, func(chance *rand.Rand, f api.Func) {
		for range 1 + chance.Intn(3) {
			b := &f.Blocks[chance.Intn(len(f.Blocks))]
			name := f.Blocks[chance.Intn(len(f.Blocks))].Name
			switch chance.Intn(3) {
			case 0:
				b.Name = name
			case 1:
				b.End.To = append(b.End.To, name)
			case 2:
				b.End.To = slices.Insert(b.End.To, 0, "q")
			}
		}
		if !shape.Right(f) {
			wrong++
		}
		assign.Ins(f)
		assign.Right(f)
	})
	if wrong < 2000 {
		t.Error(wrong)
	}
}
