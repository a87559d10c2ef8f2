package heap_test

import (
	"math"
	"strconv"
	"strings"
	"testing"

	"lateen/api"
	"lateen/heap"
)

// values reads values: 7 is an int, f7 a float, @7 a ref, and P:7 a value whose type is told by any other text.
func values(text string) []api.Val {
	var l []api.Val
	for _, word := range strings.Fields(text) {
		kind, number := "int", word
		if before, behind, ok := strings.Cut(word, ":"); ok {
			kind, number = before, behind
		} else if word[0] == 'f' {
			kind, number = "float", word[1:]
		} else if word[0] == '@' {
			kind, number = "ref", word[1:]
		}
		n, err := strconv.ParseInt(number, 10, 64)
		if err != nil {
			panic(err)
		}
		l = append(l, api.Val{Type: kind, N: n})
	}
	return l
}

func value(text string) api.Val { return values(text)[0] }

// objects reads a heap: of each object, between strokes, its class, and behind a blank its fields.
func objects(text string) []api.Object {
	var l []api.Object
	if text == "" {
		return l
	}
	for _, part := range strings.Split(text, "/") {
		class, rest, _ := strings.Cut(part, " ")
		l = append(l, api.Object{Class: class, Vals: values(rest)})
	}
	return l
}

// same tells whether h and k are the same heap, nil and empty rows being one.
func same(h, k []api.Object) bool {
	if len(h) != len(k) {
		return false
	}
	for at := range h {
		if h[at].Class != k[at].Class || len(h[at].Vals) != len(k[at].Vals) {
			return false
		}
		for i := range h[at].Vals {
			if h[at].Vals[i] != k[at].Vals[i] {
				return false
			}
		}
	}
	return true
}

func TestNought(t *testing.T) {
	for word, want := range map[string]api.Val{
		"int":   {Type: "int"},
		"float": {Type: "float"},
	} {
		if got := heap.Nought(word); got != want {
			t.Errorf("%q: %v", word, got)
		}
	}
	for _, word := range []string{"", "null", "ref", "P", "Q9", "Int", "INT", "int ", " int", "ints", "in", "Float", "float\x00", "float64", "0", "é", "\xff", strings.Repeat("int", 1<<16)} {
		if got := heap.Nought(word); got != (api.Val{Type: "ref"}) {
			t.Errorf("%.20q: %v", word, got)
		}
	}
}

func TestNew(t *testing.T) {
	for _, c := range []struct{ h, class, vals, want string }{
		{"", "P", "", "P"},
		{"", "P", "1 @0 f3", "P 1 @0 f3"},
		{"", "", "", ""},
		{"P 1", "P", "1", "P 1/P 1"},
		{"P 1/Q/P @2 x:4", "R", "@4 @3 @9 @-1", "P 1/Q/P @2 x:4/R @4 @3 @9 @-1"},
		{"Q/Q", "int", "", "Q/Q/int"},
		{"Q/Q", "no.name", ":9 null:0", "Q/Q/no.name :9 null:0"},
	} {
		want := objects(c.want)
		if c.class == "" {
			want = []api.Object{{}}
		}
		h, v := heap.New(objects(c.h), c.class, values(c.vals))
		if !same(h, want) || v != (api.Val{Type: "ref", N: int64(len(want))}) {
			t.Errorf("%v: %v %v", c, h, v)
		}
	}
}

// Objects one behind the other: each value leads to the object that was made with it, then and ever after.
func TestNewAgainAndAgain(t *testing.T) {
	var h []api.Object
	var made []api.Val
	for n := range int64(200) {
		var v api.Val
		h, v = heap.New(h, "P", []api.Val{{Type: "int", N: n}, {Type: "ref", N: n}})
		made = append(made, v)
		for at, v := range made {
			got, ok := heap.Load(h, v, 0)
			next, there := heap.Load(h, v, 1)
			if v.N != int64(at)+1 || !ok || !there || got != (api.Val{Type: "int", N: int64(at)}) || next != (api.Val{Type: "ref", N: int64(at)}) {
				t.Fatal(n, at, v, got, next)
			}
		}
	}
}

// some is a heap on which fields are asked for and set.
const some = "P 1 @2 f3/Q/R P:4/P @0 @4 @9"

// misses are values that lead to no object of some, and, of those that lead to one, places that it doesn't have.
func misses() []struct {
	o  api.Val
	at int
} {
	type miss = struct {
		o  api.Val
		at int
	}
	var l []miss
	for _, o := range values("1 4 f1 f4 P:1 Q:2 null:1 obj:1 Ref:1 refs:1 re:1 :1 int:2 @0 @5 @6 @-1 @-4 @9223372036854775807 @-9223372036854775808 @4294967297 @-4294967295 @4611686018427387905") {
		for _, at := range []int{0, 1, -1, math.MaxInt, math.MinInt} {
			l = append(l, miss{o, at})
		}
	}
	for at, o := range objects(some) {
		v := api.Val{Type: "ref", N: int64(at) + 1}
		for _, at := range []int{-1, -2, -len(o.Vals), len(o.Vals), len(o.Vals) + 1, math.MaxInt, math.MinInt, math.MaxInt32 + 1, math.MinInt32, 1 << 32, 1<<32 + 1, -1 << 32} {
			if at < 0 || at >= len(o.Vals) {
				l = append(l, miss{v, at})
			}
		}
	}
	return l
}

func TestLoad(t *testing.T) {
	h := objects(some)
	for at, o := range h {
		for field, want := range o.Vals {
			if got, ok := heap.Load(h, api.Val{Type: "ref", N: int64(at) + 1}, field); !ok || got != want {
				t.Error(at, field, got, ok)
			}
		}
	}
	for _, m := range misses() {
		if got, ok := heap.Load(h, m.o, m.at); ok || got != (api.Val{}) {
			t.Error(m, got, ok)
		}
		if got, ok := heap.Load(nil, m.o, m.at); ok || got != (api.Val{}) {
			t.Error(m, got, ok)
		}
	}
	if got, ok := heap.Load(objects("P/P 5"), value("@1"), 0); ok || got != (api.Val{}) {
		t.Error("the next one's field", got)
	}
}

func TestStore(t *testing.T) {
	h := objects(some)
	for at, o := range h {
		for field := range o.Vals {
			for _, v := range append(values("7 f-7 @0 @1 @77 @-9223372036854775808 P:3 null:0"), api.Val{}, o.Vals[field]) {
				want := objects(some)
				want[at].Vals[field] = v
				if got, ok := heap.Store(h, api.Val{Type: "ref", N: int64(at) + 1}, field, v); !ok || !same(got, want) {
					t.Error(at, field, got, ok)
				}
			}
		}
	}
	for _, m := range misses() {
		if got, ok := heap.Store(h, m.o, m.at, value("8")); ok || !same(got, objects(some)) {
			t.Error(m, got, ok)
		}
		if got, ok := heap.Store(nil, m.o, m.at, value("8")); ok || len(got) != 0 {
			t.Error(m, got, ok)
		}
	}
}

// Objects whose rows are one row of memory are two objects all the same.
func TestStoreWhereRowsAreOne(t *testing.T) {
	row := values("1 2 3")
	h := []api.Object{{Class: "P", Vals: row}, {Class: "P", Vals: row}, {Class: "P", Vals: row[1:]}}
	got, ok := heap.Store(h, value("@1"), 1, value("9"))
	if !ok || !same(got, objects("P 1 9 3/P 1 2 3/P 2 3")) {
		t.Error(got)
	}
	got, v := heap.New(h, "P", row)
	got[0].Vals[0].N, got[2].Vals[1].N = 8, 7
	if !same(got, objects("P 8 2 3/P 1 2 3/P 2 7/P 1 2 3")) || v.N != 4 {
		t.Error(got, v)
	}
}

// What was stored is loaded, and all other fields are as they were, over many stores.
func TestStoreAndLoad(t *testing.T) {
	var h []api.Object
	for range 5 {
		h, _ = heap.New(h, "P", values("0 0 0"))
	}
	known := map[[2]int]int64{}
	for n := range 500 {
		at, field := n*7%5, n*5%3
		l, ok := heap.Store(h, api.Val{Type: "ref", N: int64(at) + 1}, field, api.Val{Type: "int", N: int64(n)})
		if !ok {
			t.Fatal(n)
		}
		h = l
		known[[2]int{at, field}] = int64(n)
		for at := range 5 {
			for field := range 3 {
				got, ok := heap.Load(h, api.Val{Type: "ref", N: int64(at) + 1}, field)
				if !ok || got != (api.Val{Type: "int", N: known[[2]int{at, field}]}) {
					t.Fatal(n, at, field, got)
				}
			}
		}
	}
	if len(known) != 15 {
		t.Error(known)
	}
}
