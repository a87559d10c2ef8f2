package show_test

import (
	"reflect"
	"strings"
	"testing"
	"unsafe"

	"lateen/api"
	"lateen/show"
)

// roomy answers a copy of v whose lists have spare room, with parts in it; full answers one whose lists are as long as their room.
func roomy(v reflect.Value) reflect.Value {
	return lengthened(v, func(list reflect.Value) reflect.Value {
		n := list.Len()
		for i := range min(n, 3) {
			list = reflect.Append(list, list.Index(i))
		}
		return list.Slice(0, n)
	})
}

func full(v reflect.Value) reflect.Value {
	return lengthened(v, func(list reflect.Value) reflect.Value { return list })
}

// lengthened answers a copy of v, in which each list is what change makes of a copy of it; spare room is copied, too.
func lengthened(v reflect.Value, change func(reflect.Value) reflect.Value) reflect.Value {
	c := reflect.New(v.Type()).Elem()
	switch v.Kind() {
	case reflect.Slice:
		list := reflect.MakeSlice(v.Type(), 0, v.Cap())
		for i := range v.Cap() {
			list = reflect.Append(list, lengthened(v.Slice(0, v.Cap()).Index(i), change))
		}
		c.Set(change(list))
	case reflect.Struct:
		for i := range v.NumField() {
			c.Field(i).Set(lengthened(v.Field(i), change))
		}
	case reflect.String:
		c.SetString(strings.Clone(v.String()))
	default:
		c.Set(v)
	}
	return c
}

// What is handed in stays as it was, its spare room too, whatever is answered.
func TestWhatIsHandedInStays(t *testing.T) {
	for at, change := range []func(p *api.Program){
		func(p *api.Program) {},
		func(p *api.Program) { p.Funcs[1].Blocks[0].End.Kind = 0 },
		func(p *api.Program) { p.Funcs[0].Blocks[0].Code[4].Objs[1].Class = "" },
	} {
		p := roomy(reflect.ValueOf(copied(parsed(t, sample)))).Interface().(api.Program)
		if cap(p.Funcs[0].Blocks[0].Code[0].Args) < 4 || cap(p.Funcs[0].Blocks[0].End.To) < 4 {
			t.Fatal("there is no spare room")
		}
		change(&p)
		before := full(reflect.ValueOf(p)).Interface()
		text, _ := show.Text(p)
		if right := show.Right(p); right != (at == 0) || right != (text == sample) {
			t.Error(at, right, text)
		}
		if after := full(reflect.ValueOf(p)).Interface(); !reflect.DeepEqual(before, after) {
			t.Errorf("%d: it is changed\n%+v to\n%+v", at, before, after)
		}
	}
}

// A text shares no memory with the program, nor with another text; and nothing is kept from call to call.
func TestTextIsNewMemory(t *testing.T) {
	for _, source := range []string{sample, "ssa\n", "class C\n"} {
		p := parsed(t, source)
		text, _ := show.Text(p)
		again, _ := show.Text(p)
		if text != again || text != source {
			t.Errorf("%q and %q", text, again)
		}
		from, to := bytesOf(text)
		if other, _ := bytesOf(again); other == from {
			t.Error("two texts share their bytes")
		}
		walk(reflect.ValueOf(&p).Elem(), func(v reflect.Value) {
			if v.Kind() != reflect.String || v.Len() == 0 {
				return
			}
			if a, b := bytesOf(v.String()); a < to && b > from {
				t.Errorf("the text shares the bytes of %q", v.String())
			}
		})
	}
	p := parsed(t, sample)
	text, _ := show.Text(p)
	p.Classes[0].Fields[0].Name = "other"
	p.Funcs[0].Blocks[0].Code[4].Frames[0].Vars[0].A = number(7)
	if text != sample {
		t.Error("the text is changed")
	}
	is(t, p, strings.NewReplacer("field a int", "field other int", "b0 4 x #0", "b0 4 x 7").Replace(sample))
}

func bytesOf(s string) (uintptr, uintptr) {
	from := uintptr(unsafe.Pointer(unsafe.StringData(s)))
	return from, from + uintptr(len(s))
}

// Nil and empty lists are one.
func TestNilAndEmptyLists(t *testing.T) {
	p := parsed(t, sample+"class E\nfunc h int\nblock b\nguard\nx = new E\ntrap 10\n")
	want := write(p)
	empty, none := copied(p), copied(p)
	walk(reflect.ValueOf(&empty).Elem(), func(v reflect.Value) {
		if v.Kind() == reflect.Slice && v.Len() == 0 {
			v.Set(reflect.MakeSlice(v.Type(), 0, 2))
		}
	})
	walk(reflect.ValueOf(&none).Elem(), func(v reflect.Value) {
		if v.Kind() == reflect.Slice && v.Len() == 0 {
			v.SetZero()
		}
	})
	is(t, empty, want)
	is(t, none, want)
	is(t, api.Program{Classes: []api.Class{}, Globals: []api.Var{}, Externs: []api.Extern{}, Funcs: []api.Func{}}, "")
}
