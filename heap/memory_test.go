package heap_test

import (
	"math"
	"math/rand"
	"reflect"
	"runtime"
	"slices"
	"strings"
	"testing"
	"unsafe"

	"lateen/api"
	"lateen/heap"
)

// each calls do with v and with all that is in it, where it stands.
func each(v reflect.Value, do func(reflect.Value)) {
	do(v)
	switch v.Kind() {
	case reflect.Slice:
		for i := range v.Len() {
			each(v.Index(i), do)
		}
	case reflect.Struct:
		for i := range v.NumField() {
			each(v.Field(i), do)
		}
	}
}

// given is all that a call may be handed, in memory of its own.
type given struct {
	H, K    []api.Object
	A, B    []api.Val
	O, V    api.Val
	Class   string
	Type    string
	Numbers []int
}

// roomy lays lists of their own into g, each of which has spare room, with parts in it, and texts of their own.
func roomy(g *given) {
	each(reflect.ValueOf(g).Elem(), func(v reflect.Value) {
		switch v.Kind() {
		case reflect.String:
			v.SetString(strings.Clone(v.String()))
		case reflect.Slice:
			l := reflect.MakeSlice(v.Type(), v.Len()+2, v.Len()+2)
			reflect.Copy(l, v)
			if v.Len() > 0 {
				l.Index(v.Len()).Set(v.Index(0))
			}
			v.Set(l.Slice(0, v.Len()))
		}
	})
}

// parts answers all texts and numbers that are in v, its spare room too.
func parts(v reflect.Value) []any {
	var l []any
	switch v.Kind() {
	case reflect.Slice:
		l = append(l, v.Len())
		for i := range v.Cap() {
			l = append(l, parts(v.Slice(0, v.Cap()).Index(i))...)
		}
	case reflect.Struct:
		for i := range v.NumField() {
			l = append(l, parts(v.Field(i))...)
		}
	case reflect.String:
		l = append(l, strings.Clone(v.String()))
	default:
		l = append(l, v.Interface())
	}
	return l
}

// answers are all that calls answer.
type answers struct {
	New, Store, Left []api.Object
	Made, Field      api.Val
	Nought           api.Val
	Told             []bool
}

// call calls all there is.
func call(g given) answers {
	var a answers
	var loaded, stored, left bool
	a.New, a.Made = heap.New(g.H, g.Class, g.A)
	a.Store, stored = heap.Store(g.H, g.O, g.Numbers[0], g.V)
	a.Left, left = heap.Store(g.H, g.O, g.Numbers[1], g.V)
	a.Field, loaded = heap.Load(g.H, g.O, g.Numbers[0])
	a.Nought = heap.Nought(g.Type)
	a.Told = []bool{loaded, stored, left, heap.Alike(g.H, g.A, g.K, g.B), heap.Alike(g.H, g.B, g.H, g.A)}
	return a
}

// samples calls do with what may be handed in, some of it as chance has it.
func samples(do func(given)) {
	do(given{
		H: objects("P 1 @2 @1/Q f3 P:4/P"), A: values("@1 @2 @9 1"), K: objects("P/P 1 @3 @2/Q f3 P:4"), B: values("@2 @3 @-4 1"),
		O: value("@1"), V: value("Q:8"), Class: "R", Type: "float", Numbers: []int{1, 3},
	})
	chance := rand.New(rand.NewSource(15))
	for range 200 {
		g := given{V: value("Q:8"), Class: "R", Type: "P"}
		g.H, g.A = byChance(chance)
		g.K, g.B = changed(chance, g.H, g.A)
		g.O = api.Val{Type: "ref", N: int64(chance.Intn(5))}
		g.Numbers = []int{chance.Intn(2), 2 + chance.Intn(9)}
		do(g)
	}
}

// What is handed in stays as it was, its spare room too; what stands in spare room doesn't count.
func TestWhatIsHandedInStays(t *testing.T) {
	samples(func(g given) {
		want := call(g)
		roomy(&g)
		ahead := parts(reflect.ValueOf(g))
		if got := call(g); !reflect.DeepEqual(got, want) {
			t.Fatalf("%+v: %+v, not %+v", g, got, want)
		}
		if !slices.Equal(parts(reflect.ValueOf(g)), ahead) {
			t.Fatalf("it is changed to\n%+v", g)
		}
	})
}

// stretch is where a text's or a list's bytes are, with its spare room.
type stretch struct {
	from, to uintptr
}

// stretches answers those of all lists that are in v, and of its texts, if these are asked for.
func stretches(v reflect.Value, texts bool) []stretch {
	var l []stretch
	each(v, func(v reflect.Value) {
		var from, size uintptr
		switch v.Kind() {
		case reflect.String:
			if texts {
				from, size = uintptr(unsafe.Pointer(unsafe.StringData(v.String()))), uintptr(v.Len())
			}
		case reflect.Slice:
			from, size = v.Pointer(), uintptr(v.Cap())*v.Type().Elem().Size()
		}
		if size > 0 {
			l = append(l, stretch{from, from + size})
		}
	})
	return l
}

// No answer shares memory with what was handed in, nor two lists of an answer with one another, nor with another answer's.
func TestAnswersAreNewMemory(t *testing.T) {
	many := 0
	samples(func(g given) {
		roomy(&g)
		// One row for two objects: in the answer these have two.
		if len(g.H) > 1 {
			g.H[0].Vals = g.H[1].Vals
		}
		own := stretches(reflect.ValueOf(g), true)
		one, other := call(g), call(g)
		for _, s := range append(stretches(reflect.ValueOf(one), true), stretches(reflect.ValueOf(other), true)...) {
			if slices.ContainsFunc(own, func(o stretch) bool { return s.from < o.to && o.from < s.to }) {
				t.Fatalf("memory is shared with what was handed in, of %+v", g)
			}
		}
		told := append(stretches(reflect.ValueOf(one), false), stretches(reflect.ValueOf(other), false)...)
		many += len(told)
		slices.SortFunc(told, func(a, b stretch) int { return int(a.from) - int(b.from) })
		for at, s := range told {
			if at > 0 && s.from < told[at-1].to {
				t.Fatalf("memory is shared among answers, of %+v", g)
			}
		}
		// Memory that is given back ahead of this might be handed out again.
		runtime.KeepAlive([]any{g, one, other})
	})
	if many < 1000 {
		t.Error(many)
	}
}

// What is laid into an answer, or behind it, is seen neither in what was handed in nor in another answer, nor is what is laid into what was handed in seen in an answer.
func TestAnswersAreTheCallers(t *testing.T) {
	lay := func(v reflect.Value) {
		each(v, func(v reflect.Value) {
			switch v.Kind() {
			case reflect.String:
				v.SetString("laid")
			case reflect.Int64, reflect.Int:
				v.SetInt(-77)
			case reflect.Slice:
				reflect.Append(v, reflect.Zero(v.Type().Elem()))
			}
		})
	}
	samples(func(g given) {
		roomy(&g)
		ahead := parts(reflect.ValueOf(g))
		laid, want := call(g), call(g)
		kept := parts(reflect.ValueOf(want))
		lay(reflect.ValueOf(&laid).Elem())
		if !slices.Equal(parts(reflect.ValueOf(g)), ahead) {
			t.Fatalf("it is changed to\n%+v", g)
		}
		if !slices.Equal(parts(reflect.ValueOf(want)), kept) || !reflect.DeepEqual(call(g), want) {
			t.Fatalf("another answer is changed: %+v", want)
		}
		lay(reflect.ValueOf(&g).Elem())
		if !slices.Equal(parts(reflect.ValueOf(want)), kept) {
			t.Fatalf("an answer is changed: %+v", want)
		}
	})
}

// Nil and empty lists are one, handed in.
func TestNilAndEmptyLists(t *testing.T) {
	none, empty := []api.Object{{Class: "P"}}, []api.Object{{Class: "P", Vals: []api.Val{}}}
	for _, l := range [][2][]api.Object{{nil, nil}, {nil, {}}, {{}, nil}, {{}, {}}, {none, none}, {none, empty}, {empty, none}, {empty, empty}} {
		for _, a := range [][2][]api.Val{{nil, nil}, {nil, {}}, {{}, nil}, {{}, {}}, {values("@1"), values("@1")}} {
			if !heap.Alike(l[0], a[0], l[1], a[1]) {
				t.Error(l, a)
			}
		}
		for _, h := range l {
			for _, a := range [][]api.Val{nil, {}} {
				got, v := heap.New(h, "Q", a)
				if !same(got, append(slices.Clone(h), api.Object{Class: "Q"})) || v.N != int64(len(h))+1 {
					t.Error(h, got, v)
				}
			}
			if got, ok := heap.Store(h, value("@1"), 0, value("1")); ok || !same(got, h) {
				t.Error(h, got)
			}
			if got, ok := heap.Load(h, value("@1"), 0); ok || got != (api.Val{}) {
				t.Error(h, got)
			}
		}
	}
}

// What is answered hangs on what is handed in alone: asked again, among other calls, it is the same.
func TestNothingIsKept(t *testing.T) {
	var all []given
	var want []answers
	samples(func(g given) {
		all = append(all, g)
		want = append(want, call(g))
	})
	for range 3 {
		for at := range slices.Backward(all) {
			if got := call(all[at]); !reflect.DeepEqual(got, want[at]) {
				t.Fatalf("%+v: %+v, not %+v", all[at], got, want[at])
			}
		}
	}
}

// Whatever is handed in, calls end and none panics: values and numbers of any kind, against one another.
func TestWrongInputs(t *testing.T) {
	var strange []api.Val
	for _, kind := range []string{"ref", "int", "float", "", "P", "null", "\xff\x00", strings.Repeat("ref", 1<<12)} {
		for _, n := range []int64{0, 1, 2, 3, 4, -1, -2, math.MaxInt64, math.MinInt64, math.MaxInt32, math.MinInt32, 1 << 32, 1<<32 + 1} {
			strange = append(strange, api.Val{Type: kind, N: n})
		}
	}
	heaps := [][]api.Object{nil, {}, {{}}, {{}, {}}, {{Class: "P", Vals: strange}}, {{Class: "P", Vals: strange}, {Class: "P", Vals: strange}, {Class: strings.Repeat("\xff", 1<<12), Vals: strange[:9]}}}
	for _, h := range heaps {
		for _, v := range strange {
			for _, at := range []int{0, 1, 2, -1, len(strange), len(strange) - 1, math.MaxInt, math.MinInt} {
				want := v.Type == "ref" && v.N >= 1 && v.N <= int64(len(h)) && at >= 0 && at < len(h[v.N-1].Vals)
				_, loaded := heap.Load(h, v, at)
				_, stored := heap.Store(h, v, at, v)
				if loaded != want || stored != want {
					t.Fatalf("%d objects, %.20v, %d", len(h), v, at)
				}
			}
			heap.New(h, v.Type, strange)
			heap.Nought(v.Type)
			for _, k := range heaps {
				for _, w := range strange {
					if got := heap.Alike(h, []api.Val{v}, k, []api.Val{w}); got != heap.Alike(k, []api.Val{w}, h, []api.Val{v}) {
						t.Fatalf("%d objects, %.20v, %d objects, %.20v", len(h), v, len(k), w)
					}
				}
			}
		}
		for _, k := range heaps {
			if heap.Alike(h, strange, k, strange) != heap.Alike(k, strange, h, strange) || !heap.Alike(h, strange, h, strange) {
				t.Fatalf("%d objects, %d objects", len(h), len(k))
			}
		}
	}
}
