package show_test

import (
	"fmt"
	"reflect"
	"strings"
	"testing"

	"lateen/api"
	"lateen/show"
	"lateen/syntax"
)

// write writes a program as chapter 5 has its lines. What mustn't stand in a part is left out, or makes a text that is read otherwise; so a program is readable, if and only if what is written is read as that program.
func write(p api.Program) string {
	var b strings.Builder
	put := func(format string, words ...any) { fmt.Fprintf(&b, format+"\n", words...) }
	vars := func(first string, l []api.Var) {
		for _, v := range l {
			put("%s %s %s", first, v.Name, v.Type)
		}
	}
	if p.SSA {
		put("ssa")
	}
	for _, c := range p.Classes {
		put("class %s", c.Name)
		vars("field", c.Fields)
	}
	vars("global", p.Globals)
	for _, e := range p.Externs {
		put("extern %s %d", e.Name, e.N)
	}
	for _, f := range p.Funcs {
		put("func %s %s", f.Name, f.Result)
		vars("param", f.Params)
		vars("var", f.Vars)
		for _, k := range f.Blocks {
			put("block %s", k.Name)
			for _, x := range k.Phis {
				pairs := ""
				for _, in := range x.Ins {
					pairs += " " + in.Block + " " + argument(in.A)
				}
				put("phi %s%s", x.Dst, pairs)
			}
			for _, i := range k.Code {
				put("%s", instruction(i))
				for _, at := range i.Frames {
					pairs := ""
					for _, v := range at.Vars {
						pairs += " " + v.Name + " " + argument(v.A)
					}
					put("at %s %s %d%s", at.Func, at.Block, at.At, pairs)
				}
				for _, o := range i.Objs {
					put("obj %s%s", o.Class, arguments(o.Vals))
				}
			}
			put("%s", end(k.End))
		}
	}
	return b.String()
}

func argument(a api.Arg) string {
	switch a.Kind {
	case api.KVar:
		return a.S
	case api.KInt:
		return fmt.Sprint(a.N)
	case api.KFloat:
		return fmt.Sprintf("0f%016x", uint64(a.N))
	case api.KNull:
		return "null"
	case api.KObj:
		return fmt.Sprintf("#%d", a.N)
	}
	return "?"
}

func arguments(l []api.Arg) string {
	s := ""
	for _, a := range l {
		s += " " + argument(a)
	}
	return s
}

func instruction(i api.Instr) string {
	f, ok := syntax.Of(i.Op)
	if !ok {
		return "?"
	}
	s := f.Word
	if i.Dst != "" {
		s = i.Dst + " = " + s
	}
	switch {
	case i.Op != api.Load && i.Op != api.Store:
		if f.Named {
			s += " " + i.Name
		}
		return s + arguments(i.Args)
	case len(i.Args) == 0:
		return "?"
	}
	return s + " " + argument(i.Args[0]) + " " + i.Name + arguments(i.Args[1:])
}

func end(t api.Term) string {
	switch to := strings.Join(t.To, " "); t.Kind {
	case api.Jump:
		return "jump " + to
	case api.Branch:
		return "branch " + argument(t.A) + " " + to
	case api.Ret:
		return "ret " + argument(t.A)
	case api.Trap:
		return fmt.Sprint("trap ", t.N)
	}
	return "?"
}

// plain answers a copy of v in which lists are as long as their room, and empty ones nil.
func plain(v reflect.Value) reflect.Value {
	c := reflect.New(v.Type()).Elem()
	switch v.Kind() {
	case reflect.Slice:
		if v.Len() > 0 {
			c.Set(reflect.MakeSlice(v.Type(), v.Len(), v.Len()))
		}
		for i := range v.Len() {
			c.Index(i).Set(plain(v.Index(i)))
		}
	case reflect.Struct:
		for i := range v.NumField() {
			c.Field(i).Set(plain(v.Field(i)))
		}
	default:
		c.Set(v)
	}
	return c
}

func copied(p api.Program) api.Program {
	return plain(reflect.ValueOf(p)).Interface().(api.Program)
}

func same(p, q api.Program) bool {
	return reflect.DeepEqual(copied(p), copied(q))
}

// hold holds what Right and Text answer of p against what is written, and answers whether p is readable.
func hold(t *testing.T, p api.Program) bool {
	t.Helper()
	want := write(p)
	read, _, e := syntax.Parse(want)
	readable := e == api.OK && same(read, p)
	if show.Right(p) != readable {
		t.Fatalf("Right is %v of %+v\n%s", !readable, p, want)
	}
	text, e := show.Text(p)
	if readable && (e != api.OK || text != want) {
		t.Fatalf("%d, and\n%q, not\n%q", e, text, want)
	}
	if !readable && (e != api.ErrArg || text != "") {
		t.Fatalf("%d and %q of %+v", e, text, p)
	}
	return readable
}
