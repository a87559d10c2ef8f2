package check_test

import (
	"reflect"
	"slices"
	"strings"
	"testing"

	"lateen/api"
	"lateen/check"
)

// each calls do with v and with all that is in it, where it stands.
func each(v reflect.Value, do func(reflect.Value)) {
	do(v)
	switch v.Kind() {
	case reflect.Slice:
		for i := range v.Len() {
			each(v.Index(i), do)
		}
	case reflect.Struct:
		for i := range v.NumField() {
			each(v.Field(i), do)
		}
	}
}

// anew answers a copy of v with memory of its own; where roomy is, each list has spare room, with parts in it, else none.
func anew(v reflect.Value, roomy bool) reflect.Value {
	c := reflect.New(v.Type()).Elem()
	switch v.Kind() {
	case reflect.Slice:
		n, spare := v.Len(), 0
		if roomy {
			spare = 2
		}
		l := reflect.MakeSlice(v.Type(), n+spare, n+spare)
		for i := range n + spare {
			if n > 0 {
				l.Index(i).Set(anew(v.Index(i%n), roomy))
			}
		}
		c.Set(l.Slice(0, n))
	case reflect.Struct:
		for i := range v.NumField() {
			c.Field(i).Set(anew(v.Field(i), roomy))
		}
	case reflect.String:
		c.SetString(strings.Clone(v.String()))
	default:
		c.Set(v)
	}
	return c
}

// copied answers a copy of p, as anew does.
func copied(p api.Program, roomy bool) api.Program {
	return anew(reflect.ValueOf(p), roomy).Interface().(api.Program)
}

// parts answers all texts and numbers that are in v, in its spare room too, and how long each list is.
func parts(v reflect.Value) []any {
	var l []any
	switch v.Kind() {
	case reflect.Slice:
		l = append(l, v.Len(), v.Cap())
		for i := range v.Cap() {
			l = append(l, parts(v.Slice(0, v.Cap()).Index(i))...)
		}
	case reflect.Struct:
		for i := range v.NumField() {
			l = append(l, parts(v.Field(i))...)
		}
	case reflect.String:
		l = append(l, strings.Clone(v.String()))
	default:
		l = append(l, v.Interface())
	}
	return l
}

// What is handed in stays as it was, its spare room too, whatever is answered; and what stands in spare room doesn't count.
func TestWhatIsHandedInStays(t *testing.T) {
	t.Parallel()
	for _, f := range append(faults(t), fault{parsed(t, sample), 0, api.OK}, fault{}) {
		p := copied(f.p, true)
		before := parts(reflect.ValueOf(p))
		is(t, p, f.want)
		for at, g := range p.Funcs {
			if got := check.Size(g); got != check.Size(f.p.Funcs[at]) {
				t.Errorf("%d instructions of\n%+v", got, g)
			}
		}
		if !slices.Equal(parts(reflect.ValueOf(p)), before) {
			t.Fatalf("it is changed to\n%+v", p)
		}
	}
}

// bare answers a copy of p in which empty lists are nil.
func bare(p api.Program) api.Program {
	p = copied(p, false)
	each(reflect.ValueOf(&p).Elem(), func(v reflect.Value) {
		if v.Kind() == reflect.Slice && v.Len() == 0 {
			v.SetZero()
		}
	})
	return p
}

// Nil and empty lists are one, handed in.
func TestNilAndEmptyLists(t *testing.T) {
	t.Parallel()
	for _, f := range append(faults(t), fault{parsed(t, sample), 0, api.OK}, fault{}) {
		is(t, bare(f.p), f.want)
		empty := copied(f.p, false)
		if empty.Funcs == nil {
			t.Fatal("a list is nil")
		}
		is(t, empty, f.want)
	}
}

// What is answered hangs on what is handed in alone: asked again, among other calls, it is the same, and nothing that was handed in is seen later.
func TestNothingIsKept(t *testing.T) {
	t.Parallel()
	l := faults(t)
	right := parsed(t, sample)
	for _, f := range l {
		p := copied(f.p, false)
		is(t, p, f.want)
		each(reflect.ValueOf(&p).Elem(), func(v reflect.Value) {
			if v.Kind() == reflect.String {
				v.SetString("laid")
			}
		})
		is(t, right, api.OK)
		is(t, f.p, f.want)
	}
}

// Calls that run at once don't meet.
func TestCallsAtOnce(t *testing.T) {
	l := append(faults(t), fault{parsed(t, sample), 0, api.OK})
	for range 4 {
		t.Run("", func(t *testing.T) {
			t.Parallel()
			for _, f := range l {
				if got := check.Source(f.p); got != f.want {
					t.Errorf("%d, not %d, of\n%+v", got, f.want, f.p)
				}
			}
		})
	}
}
