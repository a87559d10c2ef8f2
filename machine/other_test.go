package machine_test

import (
	"slices"

	"lateen/api"
	"lateen/flo"
	"lateen/heap"
	"lateen/num"
	"lateen/shape"
	"lateen/syntax"
	"lateen/types"
)

// other is another way of running: it keeps nothing but the state, looks all up anew at each step, by the words of instructions and the declared types of variables, and copies the heap whole.
type other struct {
	api.State
	p              api.Program
	answers, fails []int64
}

// runOther answers what machine.Run is to answer.
func runOther(p api.Program, s api.State, fuel int64, answers, fails []int64) api.State {
	o := other{State: copied(s, false), p: p, answers: answers, fails: fails}
	if s.Status != api.Runs && s.Status != api.Spent {
		return o.State
	}
	for o.Status, fuel = api.Runs, min(fuel, 1<<20); o.Status == api.Runs; {
		jumps := 0
		for o.Status == api.Runs && o.jumps() {
			if jumps == 256 {
				o.Status = api.Spent
				return o.State
			}
			o.way(0)
			jumps++
		}
		if o.Steps >= fuel {
			o.Status = api.Spent
			return o.State
		}
		o.Steps++
		o.step()
	}
	return o.State
}

func (o *other) top() *api.Live { return &o.Frames[len(o.Frames)-1] }

func (o *other) function() api.Func {
	f, _ := types.Func(o.p, o.top().Func)
	return f
}

func (o *other) block() api.Block {
	f := o.function()
	at, _ := shape.Place(f, o.top().Block)
	return f.Blocks[at]
}

// jumps tells whether the next step is a Jump.
func (o *other) jumps() bool {
	b := o.block()
	return o.top().At == len(b.Code) && b.End.Kind == api.Jump
}

func (o *other) value(a api.Arg) api.Val {
	t, _ := types.Of(o.function(), a)
	switch {
	case a.Kind == api.KVar:
		return o.top().Vars[a.S]
	case t == "int", t == "float":
		return api.Val{Type: t, N: a.N}
	}
	return heap.Nought(t)
}

// way takes the way to that one of the blocks to which the one on top leads.
func (o *other) way(at int) {
	b := o.block()
	f := o.function()
	to, _ := shape.Place(f, b.End.To[at])
	set := map[string]api.Val{}
	for _, phi := range f.Blocks[to].Phis {
		from := slices.IndexFunc(phi.Ins, func(in api.In) bool { return in.Block == b.Name })
		set[phi.Dst] = o.value(phi.Ins[from].A)
	}
	for name, v := range set {
		o.top().Vars[name] = v
	}
	o.top().Block, o.top().At = f.Blocks[to].Name, 0
}

func (o *other) step() {
	b := o.block()
	if at := o.top().At; at < len(b.Code) {
		o.instr(b.Code[at])
		return
	}
	switch b.End.Kind {
	case api.Branch:
		if o.value(b.End.A).N == 0 {
			o.way(1)
		} else {
			o.way(0)
		}
	case api.Trap:
		o.Status, o.Code = api.Trapped, b.End.N
	case api.Ret:
		v := o.value(b.End.A)
		o.Frames = o.Frames[:len(o.Frames)-1]
		if len(o.Frames) == 0 {
			o.Status, o.Result = api.Ended, v
			return
		}
		o.top().Vars[o.block().Code[o.top().At].Dst] = v
		o.top().At++
	}
}

// place answers the place of the field that i names, by the type of the variable that it names.
func (o *other) place(i api.Instr) int {
	class, _ := types.Of(o.function(), i.Args[0])
	c, _ := types.Class(o.p, class)
	return slices.IndexFunc(c.Fields, func(v api.Var) bool { return v.Name == i.Name })
}

func (o *other) instr(i api.Instr) {
	form, _ := syntax.Of(i.Op)
	var args []api.Val
	var ns []int64
	for _, a := range i.Args {
		args = append(args, o.value(a))
		ns = append(ns, o.value(a).N)
	}
	dst := api.Val{Type: "int"}
	ok, code := true, int64(api.NullCode)
	switch form.Word {
	case "add", "sub", "mul", "div", "rem", "and", "or", "xor", "shl", "shr", "eq", "ne", "lt", "le":
		dst.N, ok = num.Do(i.Op, ns[0], ns[1])
		code = api.ZeroCode
	case "fadd", "fsub", "fmul", "fdiv", "feq", "flt", "fle":
		dst.N, _ = flo.Do(i.Op, ns[0], ns[1])
		dst.Type, _ = types.Of(o.function(), api.Arg{Kind: api.KVar, S: i.Dst})
	case "itof":
		dst = api.Val{Type: "float", N: flo.OfInt(ns[0])}
	case "ftoi":
		dst.N = flo.ToInt(ns[0])
	case "mov":
		dst = args[0]
	case "new":
		c, _ := types.Class(o.p, i.Name)
		for at := 0; len(i.Args) == 0 && at < len(c.Fields); at++ {
			args = append(args, heap.Nought(c.Fields[at].Type))
		}
		o.Heap, dst = heap.New(o.Heap, i.Name, args)
		o.Allocs++
	case "load":
		dst, ok = heap.Load(o.Heap, args[0], o.place(i))
	case "store":
		o.Heap, ok = heap.Store(o.Heap, args[0], o.place(i), args[1])
	case "same":
		if ns[0] == ns[1] {
			dst.N = 1
		}
	case "gload":
		dst = o.Globals[slices.IndexFunc(o.p.Globals, func(v api.Var) bool { return v.Name == i.Name })]
	case "gstore":
		o.Globals[slices.IndexFunc(o.p.Globals, func(v api.Var) bool { return v.Name == i.Name })] = args[0]
	case "call":
		s, _ := machineStart(o.p, i.Name, args)
		o.Frames = append(o.Frames, s)
		return
	case "ext":
		if o.Asked < int64(len(o.answers)) {
			dst.N = o.answers[o.Asked]
		}
		o.Asked++
		o.Trace = append(o.Trace, api.Event{Name: i.Name, Args: ns, Res: dst.N})
		o.Marks = append(o.Marks, o.Allocs)
	case "out":
		o.Trace = append(o.Trace, api.Event{Args: ns, Float: args[0].Type == "float"})
		o.Marks = append(o.Marks, o.Allocs)
	case "guard":
		o.Guards++
		if slices.Contains(o.fails, o.Guards-1) {
			o.Status = api.Failed
			return
		}
	}
	if !ok {
		o.Status, o.Code = api.Trapped, code
		return
	}
	if form.Dst {
		o.top().Vars[i.Dst] = dst
	}
	o.top().At++
}

// machineStart answers the frame with which a function begins that is given these values.
func machineStart(p api.Program, name string, vals []api.Val) (api.Live, bool) {
	f, ok := types.Func(p, name)
	l := api.Live{Func: name, Block: f.Blocks[0].Name, Vars: map[string]api.Val{}}
	for at, v := range f.Params {
		l.Vars[v.Name] = vals[at]
	}
	return l, ok
}
