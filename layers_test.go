// Package lateen_test holds the layers' calls against the signatures that the document lists.
package lateen_test

import (
	"testing"

	"lateen/api"
	"lateen/assign"
	"lateen/calls"
	"lateen/check"
	"lateen/clean"
	"lateen/dom"
	"lateen/flo"
	"lateen/flow"
	"lateen/fold"
	"lateen/graft"
	"lateen/heap"
	"lateen/lines"
	"lateen/live"
	"lateen/loops"
	"lateen/machine"
	"lateen/matter"
	"lateen/merge"
	"lateen/num"
	"lateen/pea"
	"lateen/pipe"
	"lateen/rebuild"
	"lateen/script"
	"lateen/shape"
	"lateen/show"
	"lateen/split"
	"lateen/ssa"
	"lateen/syntax"
	"lateen/types"
	"lateen/valid"
	"lateen/vstate"
	"lateen/word"
)

// Each line below is refused by the compiler, if a call is missing or has another signature.

// Layers 1 to 4.
var (
	_ func(int, int64, int64) (int64, bool)       = num.Do
	_ func(int) bool                              = num.Is
	_ func(int64) string                          = num.Put
	_ func(string) (int64, bool)                  = num.Get
	_ func(int64) int64                           = flo.Plain
	_ func(int) bool                              = flo.Is
	_ func(int, int64, int64) (int64, bool)       = flo.Do
	_ func(int64) int64                           = flo.OfInt
	_ func(int64) int64                           = flo.ToInt
	_ func(int64) string                          = flo.Put
	_ func(string) (int64, bool)                  = flo.Get
	_ func(string) bool                           = word.Name
	_ func(api.Arg) bool                          = word.Right
	_ func(api.Arg) string                        = word.Put
	_ func(string) (api.Arg, bool)                = word.Get
	_ func(string) ([]lines.Line, int, api.Errno) = lines.Split
	_ func([]lines.Line) string                   = lines.Join
	_ struct {
		N     int
		Words []string
	} = lines.Line{}
)

// Layers 5 to 8.
var (
	_ struct {
		Word        string
		Dst, Named  bool
		Least, Most int
	} = syntax.Form{}
	_ func(int) (syntax.Form, bool)                     = syntax.Of
	_ func(string) (int, bool)                          = syntax.Op
	_ func(string) (api.Program, int, api.Errno)        = syntax.Parse
	_ func(api.Program) (string, api.Errno)             = show.Text
	_ func(api.Program) bool                            = show.Right
	_ func(api.Program, string) (api.Class, bool)       = types.Class
	_ func(api.Program, string, string) (api.Var, bool) = types.Field
	_ func(api.Program, string) (api.Func, bool)        = types.Func
	_ func(api.Program, string) (api.Var, bool)         = types.Global
	_ func(api.Program, string) (api.Extern, bool)      = types.Extern
	_ func(api.Func, api.Arg) (string, bool)            = types.Of
	_ func(string, string) bool                         = types.Fits
	_ func(api.Program, api.Func, api.Instr) bool       = types.Instr
	_ func(api.Func, api.Term) bool                     = types.End
	_ func(api.Program) bool                            = types.Heads
	_ func(api.Func) bool                               = shape.Right
	_ func(api.Func) bool                               = shape.Phis
	_ func(api.Func, string) (int, bool)                = shape.Place
)

// Layers 9 to 14.
var (
	_ func(api.Func) [][]int     = flow.Of
	_ func([][]int) [][]int      = flow.Preds
	_ func([][]int) []int        = flow.Order
	_ func([][]int) []bool       = flow.Come
	_ func([][]int) []int        = dom.Nearest
	_ func([]int, int, int) bool = dom.Dominates
	_ func([][]int) [][]int      = dom.Frontier
	_ func([]int) [][]int        = dom.Kids
	_ struct {
		Head       int
		Body, Back []int
	} = loops.Loop{}
	_ func([][]int) []loops.Loop        = loops.All
	_ func([][]int) bool                = loops.Crossed
	_ func([]loops.Loop, int) []int     = loops.Depth
	_ func(api.Instr) []string          = live.Uses
	_ func(api.Func) [][]string         = live.Ins
	_ func(api.Func, int, int) []string = live.At
	_ func(api.Func) [][][]string       = live.All
	_ func(api.Func) [][]string         = assign.Ins
	_ func(api.Func) bool               = assign.Right
	_ func(api.Program) api.Errno       = check.Source
	_ func(api.Func) int                = check.Size
)

// Layers 15 to 21.
var (
	_ func(string) api.Val                                            = heap.Nought
	_ func([]api.Object, string, []api.Val) ([]api.Object, api.Val)   = heap.New
	_ func([]api.Object, api.Val, int) (api.Val, bool)                = heap.Load
	_ func([]api.Object, api.Val, int, api.Val) ([]api.Object, bool)  = heap.Store
	_ func([]api.Object, []api.Val, []api.Object, []api.Val) bool     = heap.Alike
	_ func(api.Program, string, []int64) (api.State, api.Errno)       = machine.Start
	_ func(api.Program, api.State, int64, []int64, []int64) api.State = machine.Run
	_ func(api.State) api.State                                       = machine.Pass
	_ func(api.Func, string) string                                   = split.Fresh
	_ func(api.Func) [][2]string                                      = split.Ways
	_ func(api.Func) api.Func                                         = split.All
	_ func(api.Program) api.Errno                                     = valid.Program
	_ func(api.Program, api.Func, api.Instr) bool                     = valid.State
	_ func(api.Program) api.Program                                   = ssa.Build
	_ func(api.Func) [][]string                                       = ssa.Phis
	_ func(api.Program) [][]int                                       = calls.Graph
	_ func([][]int) []int                                             = calls.Parts
	_ func([][]int) []bool                                            = calls.Round
	_ func([][]int) []int                                             = calls.Order
	_ func(api.Program, api.Opts) api.Program                         = graft.All
)

// Layers 22 to 30.
var (
	_ struct {
		Id    int64
		Class string
		Vals  []api.Arg
		Real  api.Arg
	} = vstate.Obj{}
	_ func([]vstate.Obj) bool                                        = vstate.Right
	_ func([]vstate.Obj, api.Arg) (vstate.Obj, bool)                 = vstate.Find
	_ func([]vstate.Obj, api.Arg) bool                               = vstate.Virtual
	_ func([]vstate.Obj, api.Arg) api.Arg                            = vstate.Really
	_ func([]vstate.Obj, vstate.Obj) []vstate.Obj                    = vstate.Add
	_ func([]vstate.Obj, api.Arg, int, api.Arg) ([]vstate.Obj, bool) = vstate.Set
	_ func([]vstate.Obj, []api.Arg) []int64                          = vstate.Reach
	_ func([]vstate.Obj, []vstate.Obj) bool                          = vstate.Same
	_ struct {
		Id    int64
		Field int
		Ins   []api.Arg
	} = merge.Phi{}
	_ struct {
		Need  [][]int64
		State []vstate.Obj
		Phis  []merge.Phi
		Alias []api.Arg
	} = merge.Plan{}
	_ func([][]vstate.Obj, [][]api.Arg) merge.Plan                                   = merge.Of
	_ func([]vstate.Obj, []int64) []int64                                            = matter.Order
	_ func(api.Program, []vstate.Obj, []int64, []string) ([]api.Instr, []vstate.Obj) = matter.Code
	_ func(api.Program, api.Opts) api.Program                                        = pea.All
	_ func(api.Instr) (api.Arg, bool)                                                = fold.Instr
	_ func(api.Term) (api.Term, bool)                                                = fold.End
	_ func(api.Program, api.Opts) api.Program                                        = clean.All
	_ func(api.Program, api.State) (api.State, api.Errno)                            = rebuild.State
	_ func(api.Program, api.State) bool                                              = rebuild.Fits
	_ func(string) (api.Program, api.Errno)                                          = pipe.Source
	_ func(api.Program, api.Opts) api.Program                                        = pipe.Made
	_ func(string, api.Opts) (string, api.Errno)                                     = pipe.Optimise
	_ func(string) (string, int, api.Errno)                                          = script.Run
)

// TestLayers stands here that the file is compiled with the tests.
func TestLayers(t *testing.T) {}
