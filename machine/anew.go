package machine

import (
	"strings"

	"lateen/api"
)

// anew answers a copy of l, each item made by one; nil stays nil.
func anew[T any](l []T, one func(T) T) []T {
	if l == nil {
		return nil
	}
	own := make([]T, len(l))
	for at, x := range l {
		own[at] = one(x)
	}
	return own
}

// anewNumbers answers a copy of l.
func anewNumbers(l []int64) []int64 {
	return anew(l, func(n int64) int64 { return n })
}

func anewVal(v api.Val) api.Val {
	return api.Val{Type: strings.Clone(v.Type), N: v.N}
}

func anewObject(o api.Object) api.Object {
	return api.Object{Class: strings.Clone(o.Class), Vals: anew(o.Vals, anewVal)}
}

func anewEvent(e api.Event) api.Event {
	e.Name = strings.Clone(e.Name)
	e.Args = anewNumbers(e.Args)
	return e
}

func anewLive(l api.Live) api.Live {
	vars := make(map[string]api.Val, len(l.Vars))
	for name, v := range l.Vars {
		vars[strings.Clone(name)] = anewVal(v)
	}
	return api.Live{Func: strings.Clone(l.Func), Block: strings.Clone(l.Block), At: l.At, Vars: vars}
}

func anewState(s api.State) api.State {
	s.Result = anewVal(s.Result)
	s.Frames = anew(s.Frames, anewLive)
	s.Heap = anew(s.Heap, anewObject)
	s.Globals = anew(s.Globals, anewVal)
	s.Trace = anew(s.Trace, anewEvent)
	s.Marks = anewNumbers(s.Marks)
	return s
}
