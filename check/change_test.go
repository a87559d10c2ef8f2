package check_test

import (
	"math"
	"math/rand"
	"reflect"
	"strings"
	"testing"

	"lateen/api"
	"lateen/check"
)

// texts and numbers are what may be put in a place, right or wrong there.
func texts() []string {
	return []string{"", "x", "z", "b0", "b1", "b4", "c", "f", "g", "P", "Q", "a", "k", "int", "float", "null", "e0", "abcdefghijklmnopq", "1", "a b", "é", "\x00"}
}

func numbers(n int64) []int64 {
	l := []int64{n - 1, n + 1, -n, 8, 9, 1024, math.MinInt64, math.MaxInt64, 0x7ff0000000000001, 0x7ff8000000000000}
	for i := int64(-1); i <= api.Guard+1; i++ {
		l = append(l, i)
	}
	return l
}

// lists are the lists that v may be changed for: empty ones, shorter and longer ones, one with a zero part, one the other way round.
func lists(v reflect.Value) []reflect.Value {
	n := v.Len()
	none := reflect.MakeSlice(v.Type(), 0, n+1)
	l := []reflect.Value{none, reflect.Append(v.Slice3(0, n, n), reflect.Zero(v.Type().Elem()))}
	if n == 0 {
		return l
	}
	back := none
	for i := range n {
		back = reflect.Append(back, v.Index(n-1-i))
	}
	whole := v.Slice3(0, n, n)
	return append(l, back, v.Slice(1, n), v.Slice(0, n-1), reflect.AppendSlice(whole, v.Slice(0, 1)), reflect.AppendSlice(v.Slice3(n-1, n, n), v))
}

// changes are the values that v may be changed for.
func changes(v reflect.Value) []reflect.Value {
	var l []reflect.Value
	switch v.Kind() {
	case reflect.String:
		for _, s := range texts() {
			l = append(l, reflect.ValueOf(s))
		}
	case reflect.Int, reflect.Int64:
		for _, n := range numbers(v.Int()) {
			l = append(l, reflect.ValueOf(n).Convert(v.Type()))
		}
	case reflect.Bool:
		l = append(l, reflect.ValueOf(!v.Bool()))
	case reflect.Slice:
		l = lists(v)
	case reflect.Struct:
		l = append(l, reflect.Zero(v.Type()))
	}
	return l
}

// seen holds how often each error was told, of those that Source may tell.
func seen(t *testing.T, told map[api.Errno]int, least int) {
	t.Helper()
	for _, e := range []api.Errno{api.OK, api.ErrSyntax, api.ErrType, api.ErrShape} {
		if told[e] < least {
			t.Errorf("%d is told %d times", e, told[e])
		}
	}
}

// Each place of the sample, changed for each value that may be put there.
func TestEachPlace(t *testing.T) {
	t.Parallel()
	p := parsed(t, sample)
	got := map[api.Errno]int{}
	each(reflect.ValueOf(&p).Elem(), func(v reflect.Value) {
		was := reflect.New(v.Type()).Elem()
		was.Set(v)
		for _, c := range changes(was) {
			v.Set(c)
			got[hold(t, p)]++
		}
		v.Set(was)
	})
	is(t, p, api.OK)
	seen(t, got, 100)
}

// Some places changed, and changed again as long as the program is a source, or when chance has it (always the same).
func TestSomePlaces(t *testing.T) {
	t.Parallel()
	chance := rand.New(rand.NewSource(14))
	first := parsed(t, sample)
	p := first
	got := map[api.Errno]int{}
	for range 8000 {
		next := copied(p, false)
		change(chance, &next)
		e := hold(t, next)
		got[e]++
		if e == api.OK || chance.Intn(4) == 0 {
			p = next
		}
		if chance.Intn(30) == 0 || len(p.Funcs) == 0 {
			p = first
		}
	}
	seen(t, got, 25)
}

// change changes one place of p.
func change(chance *rand.Rand, p *api.Program) {
	var places []reflect.Value
	each(reflect.ValueOf(p).Elem(), func(v reflect.Value) { places = append(places, v) })
	v := places[1+chance.Intn(len(places)-1)]
	l := changes(v)
	v.Set(l[chance.Intn(len(l))])
}

// Programs that no text has, of whichever parts: calls end, and tell so.
func TestWrongInputs(t *testing.T) {
	for _, p := range []api.Program{
		{SSA: true},
		{Classes: make([]api.Class, 1)}, {Classes: make([]api.Class, 1<<16)},
		{Globals: make([]api.Var, 1)}, {Globals: make([]api.Var, 1<<16)},
		{Externs: make([]api.Extern, 1)}, {Externs: make([]api.Extern, 1<<16)},
		{Funcs: make([]api.Func, 1)}, {Funcs: make([]api.Func, 1<<16)},
		program(api.Func{Name: "f", Result: "int"}),
		program(api.Func{Name: "f", Result: "int", Blocks: make([]api.Block, 1)}),
		program(api.Func{Name: "f", Result: "int", Blocks: make([]api.Block, 1<<16)}),
		program(api.Func{Blocks: []api.Block{{Phis: make([]api.Phi, 1), Code: make([]api.Instr, 1)}}}),
		program(api.Func{Blocks: []api.Block{{Code: make([]api.Instr, 1<<16)}}}),
		program(api.Func{Params: make([]api.Var, 1<<16), Vars: make([]api.Var, 1<<16)}),
		{Classes: []api.Class{{Name: strings.Repeat("P", 1<<20)}}},
	} {
		is(t, p, api.ErrSyntax)
	}
	for _, f := range []api.Func{{}, {Blocks: make([]api.Block, 1<<16)}, {Blocks: []api.Block{{Code: make([]api.Instr, 1)}}}} {
		check.Size(f)
	}
}
