package live

import (
	"maps"
	"slices"
	"strings"

	"lateen/api"
)

// set is a set of variables.
type set map[string]struct{}

// has tells whether the variable of that name is in s.
func (s set) has(name string) bool {
	_, is := s[name]
	return is
}

// add lays the variable of that name into s.
func (s set) add(name string) {
	s[name] = struct{}{}
}

// use lays what a is into s, if it is a variable.
func (s set) use(a api.Arg) {
	if a.Kind == api.KVar {
		s.add(a.S)
	}
}

// useAll lays the variables that i uses into s.
func (s set) useAll(i api.Instr) {
	for _, a := range i.Args {
		s.use(a)
	}
	for at := range i.Frames {
		for _, b := range i.Frames[at].Vars {
			s.use(b.A)
		}
	}
	for _, o := range i.Objs {
		for _, a := range o.Vals {
			s.use(a)
		}
	}
}

// useEnd lays the variable that t uses into s, if it uses one.
func (s set) useEnd(t api.Term) {
	if t.Kind == api.Branch || t.Kind == api.Ret {
		s.use(t.A)
	}
}

// goBack makes of s, which is live behind i, what is live ahead of it.
func (s set) goBack(i api.Instr) {
	// An empty Dst sets nothing, not even a variable without a name.
	if i.Dst != "" {
		delete(s, i.Dst)
	}
	s.useAll(i)
}

// rising answers the names of s, rising, in memory of their own.
func (s set) rising() []string {
	names := slices.Sorted(maps.Keys(s))
	for at, name := range names {
		names[at] = strings.Clone(name)
	}
	return names
}
