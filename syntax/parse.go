package syntax

import (
	"lateen/api"
	"lateen/lines"
	"lateen/num"
	"lateen/word"
)

// Limits of an instruction that no other layer has.
const (
	mostFrames  = 16
	mostObjects = 99
)

// Places in a text, by what stands ahead of them.
const (
	start  = 1 << iota // nothing
	head               // ssa, a global, an extern
	class              // a class, a field of one
	params             // a function's head, a parameter
	vars               // a variable
	phis               // a block's name, a phi
	code               // an instruction without a state
	frames             // a call, a guard, a frame of one
	objs               // an object of one
	ended              // a block's end
)

const (
	outside = start | head | class | ended // of functions: there a program may end, too
	inside  = phis | code | frames | objs  // of blocks
)

// reader is what is read of a program, and of the line that is being read.
type reader struct {
	program api.Program
	place   int
	long    int      // phis and instructions of the last function
	first   string   // the line's first word
	rest    []string // its words that are still to be read
	over    bool     // it is beyond a limit
}

// Parse answers the program whose text s is; or the number of the line at which s is none, or is beyond a limit.
func Parse(s string) (api.Program, int, api.Errno) {
	l, at, e := lines.Split(s)
	if e != api.OK {
		return api.Program{}, at, e
	}
	r := reader{place: start}
	at, e = r.read(l)
	if e != api.OK {
		return api.Program{}, at, e
	}
	return r.program, 0, api.OK
}

// refuse ends the reading, at the line that is being read.
func refuse(e api.Errno) {
	panic(e)
}

// read reads all lines; where the reading is ended by refuse, it answers that line's number and the error.
func (r *reader) read(l []lines.Line) (at int, e api.Errno) {
	defer func() {
		if given := recover(); given != nil {
			// Only refuse gives an Errno: a panic of another kind stays one.
			e = given.(api.Errno)
		}
	}()
	known := readers()
	for _, line := range l {
		at = line.N
		r.line(line.Words, known)
	}
	at = 0
	r.stands(outside)
	return at, api.OK
}

// readers are what reads a line, by its first word; of an instruction that sets a variable that is any name.
func readers() map[string]func(*reader) {
	return map[string]func(*reader){
		"ssa":    (*reader).ssa,
		"class":  (*reader).class,
		"field":  (*reader).field,
		"global": (*reader).global,
		"extern": (*reader).extern,
		"func":   (*reader).function,
		"param":  (*reader).param,
		"var":    (*reader).variable,
		"block":  (*reader).block,
		"phi":    (*reader).phi,
		"store":  (*reader).act,
		"gstore": (*reader).act,
		"out":    (*reader).act,
		"guard":  (*reader).act,
		"at":     (*reader).frame,
		"obj":    (*reader).object,
		"jump":   (*reader).jump,
		"branch": (*reader).branch,
		"ret":    (*reader).ret,
		"trap":   (*reader).trap,
	}
}

// line reads one line.
func (r *reader) line(w []string, known map[string]func(*reader)) {
	r.first, r.rest = w[0], w[1:]
	reads := known[r.first]
	// A variable may have the name of any line's first word.
	if len(r.rest) > 0 && r.rest[0] == "=" {
		reads = (*reader).set
	}
	if reads == nil {
		refuse(api.ErrSyntax)
	}
	reads(r)
	if len(r.rest) > 0 {
		refuse(api.ErrSyntax)
	}
	// Only now is it clear that the line breaks no rule as well.
	if r.over {
		refuse(api.ErrLimit)
	}
}

// stands refuses the line, if it stands at none of the places at.
func (r *reader) stands(at int) {
	if r.place&at == 0 {
		refuse(api.ErrSyntax)
	}
}

// limit has the line refused, when it is read, if n is more than most.
func (r *reader) limit(n, most int) {
	if n > most {
		r.over = true
	}
}

// next takes the next word of the line.
func (r *reader) next() string {
	if len(r.rest) == 0 {
		refuse(api.ErrSyntax)
	}
	w := r.rest[0]
	r.rest = r.rest[1:]
	return w
}

// name takes a name.
func (r *reader) name() string {
	w := r.next()
	if !word.Name(w) {
		refuse(api.ErrSyntax)
	}
	return w
}

// kind takes a type's word.
func (r *reader) kind() string {
	w := r.next()
	if w != "int" && w != "float" && !word.Name(w) {
		refuse(api.ErrSyntax)
	}
	return w
}

// declared takes a name and its type.
func (r *reader) declared() api.Var {
	name := r.name()
	return api.Var{Name: name, Type: r.kind()}
}

// number takes a whole number.
func (r *reader) number() int64 {
	n, ok := num.Get(r.next())
	if !ok {
		refuse(api.ErrSyntax)
	}
	return n
}

// count takes a number from 0 to most.
func (r *reader) count(most int64) int {
	n := r.number()
	if n < 0 || n > most {
		refuse(api.ErrSyntax)
	}
	return int(n)
}

// value takes an argument, of any kind.
func (r *reader) value() api.Arg {
	a, ok := word.Get(r.next())
	if !ok {
		refuse(api.ErrSyntax)
	}
	return a
}

// argument takes one that is no virtual object: of those only states speak.
func (r *reader) argument() api.Arg {
	a := r.value()
	if a.Kind == api.KObj {
		refuse(api.ErrSyntax)
	}
	return a
}
