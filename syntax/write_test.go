package syntax_test

import (
	"slices"
	"strconv"
	"strings"

	"lateen/api"
	"lateen/syntax"
	"lateen/word"
)

// writer writes programs as chapter 5 says, so that they can be held against what was read.
type writer struct {
	strings.Builder
	forms map[int]syntax.Form
}

func write(p api.Program) string {
	w := &writer{forms: forms()}
	if p.SSA {
		w.line("ssa")
	}
	for _, c := range p.Classes {
		w.line("class", c.Name)
		w.vars("field", c.Fields)
	}
	w.vars("global", p.Globals)
	for _, x := range p.Externs {
		w.line("extern", x.Name, strconv.Itoa(x.N))
	}
	for _, f := range p.Funcs {
		w.line("func", f.Name, f.Result)
		w.vars("param", f.Params)
		w.vars("var", f.Vars)
		for _, b := range f.Blocks {
			w.block(b)
		}
	}
	return w.String()
}

func (w *writer) line(words ...string) {
	w.WriteString(strings.Join(words, " ") + "\n")
}

func (w *writer) vars(first string, l []api.Var) {
	for _, v := range l {
		w.line(first, v.Name, v.Type)
	}
}

func (w *writer) block(b api.Block) {
	w.line("block", b.Name)
	for _, p := range b.Phis {
		l := []string{"phi", p.Dst}
		for _, in := range p.Ins {
			l = append(l, in.Block, word.Put(in.A))
		}
		w.line(l...)
	}
	for _, i := range b.Code {
		w.line(instruction(w.forms[i.Op], i)...)
		for _, f := range i.Frames {
			l := []string{"at", f.Func, f.Block, strconv.Itoa(f.At)}
			for _, v := range f.Vars {
				l = append(l, v.Name, word.Put(v.A))
			}
			w.line(l...)
		}
		for _, o := range i.Objs {
			w.line(append([]string{"obj", o.Class}, puts(o.Vals)...)...)
		}
	}
	w.line(end(b.End)...)
}

func puts(l []api.Arg) []string {
	var words []string
	for _, a := range l {
		words = append(words, word.Put(a))
	}
	return words
}

// instruction writes all that stands in i: what mustn't be there makes it another line.
func instruction(f syntax.Form, i api.Instr) []string {
	var l []string
	if i.Dst != "" {
		l = append(l, i.Dst, "=")
	}
	l = append(l, f.Word)
	l = append(l, puts(i.Args)...)
	if i.Name != "" {
		at := len(l) - len(i.Args)
		if (i.Op == api.Load || i.Op == api.Store) && len(i.Args) > 0 {
			at++
		}
		l = slices.Insert(l, at, i.Name)
	}
	return l
}

func end(t api.Term) []string {
	l := []string{[]string{"", "jump", "branch", "ret", "trap"}[t.Kind]}
	if t.A != (api.Arg{}) {
		l = append(l, word.Put(t.A))
	}
	l = append(l, t.To...)
	if t.N != 0 || t.Kind == api.Trap {
		l = append(l, strconv.FormatInt(t.N, 10))
	}
	return l
}
