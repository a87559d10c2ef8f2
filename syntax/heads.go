package syntax

import (
	"lateen/api"
)

func (r *reader) ssa() {
	r.stands(start)
	r.program.SSA = true
	r.place = head
}

func (r *reader) class() {
	r.stands(outside)
	r.program.Classes = append(r.program.Classes, api.Class{Name: r.name()})
	r.limit(len(r.program.Classes), api.MaxClasses)
	r.place = class
}

func (r *reader) field() {
	r.stands(class)
	c := &r.program.Classes[len(r.program.Classes)-1]
	c.Fields = append(c.Fields, r.declared())
	r.limit(len(c.Fields), api.MaxFields)
}

func (r *reader) global() {
	r.stands(outside)
	r.program.Globals = append(r.program.Globals, r.declared())
	r.limit(len(r.program.Globals), api.MaxGlobals)
	r.place = head
}

func (r *reader) extern() {
	r.stands(outside)
	name := r.name()
	r.program.Externs = append(r.program.Externs, api.Extern{Name: name, N: r.count(api.MaxFields)})
	r.limit(len(r.program.Externs), api.MaxExterns)
	r.place = head
}

func (r *reader) function() {
	r.stands(outside)
	name := r.name()
	r.program.Funcs = append(r.program.Funcs, api.Func{Name: name, Result: r.kind()})
	r.limit(len(r.program.Funcs), api.MaxFuncs)
	r.long = 0
	r.place = params
}

func (r *reader) param() {
	r.stands(params)
	f := r.lastFunc()
	f.Params = append(f.Params, r.declared())
	r.limit(len(f.Params), api.MaxParams)
}

func (r *reader) variable() {
	r.stands(params | vars)
	f := r.lastFunc()
	f.Vars = append(f.Vars, r.declared())
	r.limit(len(f.Vars), api.MaxNames)
	r.place = vars
}

func (r *reader) lastFunc() *api.Func {
	return &r.program.Funcs[len(r.program.Funcs)-1]
}
