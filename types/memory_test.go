package types_test

import (
	"reflect"
	"slices"
	"strings"
	"testing"
	"unsafe"

	"lateen/api"
	"lateen/types"
)

// whole has each part that a program may have.
const whole = `class P
field a int
field n P
class Q
global g int
global h P
extern e 2
func f P
param k int
param o P
var x P
var y int
block b0
phi x b1 null b2 x
phi y b1 7 b2 k
x = new P 5 null
store x a k
y = load x a
x = call f 1 x
at f b0 4 x #0 k y
at f b1 0
obj P 1 #0
obj Q
guard
at f b0 5
guard
y = gload g
branch k b1 b2
block b1
jump b0
block b2
ret x
func g int
block b
trap 10
`

// anew answers a copy of v with memory of its own; where fill is, each list has spare room, with parts in it.
func anew(v reflect.Value, fill bool) reflect.Value {
	c := reflect.New(v.Type()).Elem()
	switch v.Kind() {
	case reflect.Slice:
		l := reflect.MakeSlice(v.Type(), 0, v.Len())
		for i := range v.Len() {
			l = reflect.Append(l, anew(v.Index(i), fill))
		}
		if fill {
			spare := reflect.New(v.Type().Elem()).Elem()
			if v.Len() > 0 {
				spare = anew(v.Index(0), fill)
			}
			l = reflect.Append(l, spare, spare).Slice(0, v.Len())
		}
		c.Set(l)
	case reflect.Struct:
		for i := range v.NumField() {
			c.Field(i).Set(anew(v.Field(i), fill))
		}
	case reflect.String:
		c.SetString(strings.Clone(v.String()))
	default:
		c.Set(v)
	}
	return c
}

// grown answers a copy of v whose lists have grown to their room.
func grown(v reflect.Value) reflect.Value {
	c := reflect.New(v.Type()).Elem()
	switch v.Kind() {
	case reflect.Slice:
		l := reflect.MakeSlice(v.Type(), 0, v.Cap())
		for i := range v.Cap() {
			l = reflect.Append(l, grown(v.Slice(0, v.Cap()).Index(i)))
		}
		c.Set(l)
	case reflect.Struct:
		for i := range v.NumField() {
			c.Field(i).Set(grown(v.Field(i)))
		}
	case reflect.String:
		c.SetString(strings.Clone(v.String()))
	default:
		c.Set(v)
	}
	return c
}

// stretch is where a text's or a list's bytes are, with its spare room.
type stretch struct {
	from, to uintptr
	list     bool
}

// stretches answers those of all that is in v.
func stretches(v reflect.Value) []stretch {
	var l []stretch
	switch v.Kind() {
	case reflect.String:
		if v.Len() > 0 {
			from := uintptr(unsafe.Pointer(unsafe.StringData(v.String())))
			l = append(l, stretch{from, from + uintptr(v.Len()), false})
		}
	case reflect.Slice:
		if size := uintptr(v.Cap()) * v.Type().Elem().Size(); size > 0 {
			l = append(l, stretch{v.Pointer(), v.Pointer() + size, true})
		}
		for i := range v.Len() {
			l = append(l, stretches(v.Index(i))...)
		}
	case reflect.Struct:
		for i := range v.NumField() {
			l = append(l, stretches(v.Field(i))...)
		}
	}
	return l
}

// answers are what each call answers that tells what is declared.
func answers(p api.Program) []any {
	c, _ := types.Class(p, "P")
	v, _ := types.Field(p, "P", "n")
	f, _ := types.Func(p, "f")
	g, _ := types.Func(p, "g")
	h, _ := types.Global(p, "h")
	e, _ := types.Extern(p, "e")
	kind, _ := types.Of(p.Funcs[0], variable("o"))
	return []any{c, v, f, g, h, e, kind}
}

// No answer shares memory with the program, nor two lists of an answer with one another, nor with another answer's.
func TestAnswersAreNewMemory(t *testing.T) {
	p := anew(reflect.ValueOf(parsed(t, whole)), true).Interface().(api.Program)
	taken := stretches(reflect.ValueOf(p))
	lists := 0
	for _, a := range append(answers(p), answers(p)...) {
		own := stretches(reflect.ValueOf(a))
		if len(own) == 0 {
			t.Fatalf("%+v has nothing", a)
		}
		for at, s := range own {
			for _, o := range taken {
				if s.from < o.to && s.to > o.from {
					t.Fatalf("%+v shares memory", a)
				}
			}
			if !s.list {
				continue
			}
			lists++
			for _, o := range own[:at] {
				if s.from < o.to && s.to > o.from {
					t.Fatalf("two lists of %+v share memory", a)
				}
			}
		}
		taken = append(taken, own...)
	}
	if lists < 40 {
		t.Error(lists)
	}
}

// What is answered is all that is declared, and stays so when the program is changed.
func TestAnswersStay(t *testing.T) {
	p := parsed(t, whole)
	same := anew(reflect.ValueOf(p), false).Interface().(api.Program)
	got := answers(p)
	want := []any{same.Classes[0], same.Classes[0].Fields[1], same.Funcs[0], same.Funcs[1], same.Globals[1], same.Externs[0], "P"}
	change(reflect.ValueOf(&p).Elem())
	if reflect.DeepEqual(p, same) || p.Funcs[0].Blocks[0].Code[3].Frames[0].Vars[0].A.N == 0 {
		t.Fatal("the program isn't changed")
	}
	for at := range want {
		if !alike(got[at], want[at]) {
			t.Errorf("%+v, not\n%+v", got[at], want[at])
		}
	}
}

// alike takes nil and empty lists for one.
func alike(a, b any) bool {
	return reflect.DeepEqual(anew(reflect.ValueOf(a), false).Interface(), anew(reflect.ValueOf(b), false).Interface())
}

// change changes each part of v, where it stands.
func change(v reflect.Value) {
	switch v.Kind() {
	case reflect.Slice:
		for i := range v.Len() {
			change(v.Index(i))
		}
	case reflect.Struct:
		for i := range v.NumField() {
			change(v.Field(i))
		}
	case reflect.String:
		v.SetString(v.String() + "x")
	case reflect.Int, reflect.Int64:
		v.SetInt(v.Int() + 1)
	}
}

// What is handed in stays as it was, its spare room too.
func TestWhatIsHandedInStays(t *testing.T) {
	for _, text := range []string{whole, whole + "class Q\n", heads} {
		p := anew(reflect.ValueOf(parsed(t, text)), true).Interface().(api.Program)
		before := grown(reflect.ValueOf(p)).Interface()
		if text == whole {
			answers(p)
		}
		types.Heads(p)
		for _, f := range p.Funcs {
			for _, b := range f.Blocks {
				for _, i := range b.Code {
					types.Instr(p, f, i)
				}
				types.End(f, b.End)
			}
		}
		if after := grown(reflect.ValueOf(p)).Interface(); !reflect.DeepEqual(before, after) {
			t.Errorf("it is changed\n%+v to\n%+v", before, after)
		}
	}
}

// Nil and empty lists are one, handed in.
func TestNilAndEmptyLists(t *testing.T) {
	for _, line := range []string{"guard", "x = new Q", "x = gload h", "x = call g"} {
		p := parsed(t, "class Q\nglobal h Q\nfunc f int\nvar x Q\nblock b\n"+line+"\njump b\nfunc g Q\nblock b\njump b\n")
		empty := anew(reflect.ValueOf(p), false).Interface().(api.Program)
		for _, p := range []api.Program{p, empty} {
			f := p.Funcs[0]
			if !types.Heads(p) || !types.Instr(p, f, f.Blocks[0].Code[0]) || !types.End(f, f.Blocks[0].End) {
				t.Errorf("%s: isn't right", line)
			}
			for _, i := range []api.Instr{{Op: api.Guard}, {Op: api.Guard, Args: []api.Arg{}, Frames: []api.Frame{}, Objs: []api.Virt{}}} {
				if !types.Instr(p, f, i) {
					t.Errorf("%+v isn't right", i)
				}
			}
		}
	}
}

// What is answered hangs on what is handed in alone: asked again, among other calls, it is the same.
func TestNothingIsKept(t *testing.T) {
	p, other := parsed(t, whole), parsed(t, strings.ReplaceAll(whole, "int", "float"))
	first := answers(p)
	answers(other)
	if !slices.EqualFunc(first, answers(p), alike) {
		t.Error("another time it is something else")
	}
}
