package machine_test

import (
	"strings"
	"testing"

	"lateen/api"
	"lateen/heap"
	"lateen/machine"
)

// classes is the head of programs with objects; P and Q have fields of the same names at other places.
const classes = "class P/field a int/field u float/field n P/field q Q/class Q/field n Q/field a int/class E/global g int/global h P/"

// withObjects runs code in a function of a program of these classes, whose variables x and y are int, w is float, p, q, r of the class P, s of Q, and e of E, k an int that is 7, and z a P that is null; it answers the state in words, without the frame's variables.
func withObjects(t *testing.T, code string) string {
	t.Helper()
	s := ran(t, classes+"func f int/param k int/param z P/var x int/var y int/var w float/var p P/var q P/var r P/var s Q/var e E/block a/"+code, 7, 9)
	for at := range s.Frames {
		s.Frames[at].Vars = nil
	}
	return told(s)
}

func TestObjects(t *testing.T) {
	for code, want := range map[string]string{
		// Noughts of each type, and what is handed in.
		"p = new P/ret 1": "ended 1 obj P(0 f0000000000000000 @0 @0) globals 0 @0 allocs 1 steps 2",
		"s = new Q/ret 1": "ended 1 obj Q(@0 0) globals 0 @0 allocs 1 steps 2",
		"e = new E/ret 1": "ended 1 obj E() globals 0 @0 allocs 1 steps 2",
		"p = new P 1 0f8000000000000000 null null/ret 1":             "ended 1 obj P(1 f8000000000000000 @0 @0) globals 0 @0 allocs 1 steps 2",
		"p = new P/p = new P k 0f3ff0000000000000 p null/ret 1":      "ended 1 obj P(0 f0000000000000000 @0 @0) obj P(7 f3ff0000000000000 @1 @0) globals 0 @0 allocs 2 steps 3",
		"s = new Q null 3/p = new P -5 0f7ff8000000000000 z s/ret 1": "ended 1 obj Q(@0 3) obj P(-5 f7ff8000000000000 @0 @1) globals 0 @0 allocs 2 steps 3",
		"p = new P/p = new P/p = new P/x = same p z/ret x":           "ended 0 obj P(0 f0000000000000000 @0 @0) obj P(0 f0000000000000000 @0 @0) obj P(0 f0000000000000000 @0 @0) globals 0 @0 allocs 3 steps 5",
		// Fields of one object, of several, at other places of the same names.
		"p = new P/store p a 4/x = load p a/ret x":                             "ended 4 obj P(4 f0000000000000000 @0 @0) globals 0 @0 allocs 1 steps 4",
		"p = new P/q = new P/store p a 4/store q a 5/x = load p a/ret x":       "ended 4 obj P(4 f0000000000000000 @0 @0) obj P(5 f0000000000000000 @0 @0) globals 0 @0 allocs 2 steps 6",
		"s = new Q/store s a 4/x = load s a/ret x":                             "ended 4 obj Q(@0 4) globals 0 @0 allocs 1 steps 4",
		"p = new P/store p a 4/store p a k/x = load p a/ret x":                 "ended 7 obj P(7 f0000000000000000 @0 @0) globals 0 @0 allocs 1 steps 5",
		"p = new P/store p u 0f3ff0000000000000/w = load p u/x = ftoi w/ret x": "ended 1 obj P(0 f3ff0000000000000 @0 @0) globals 0 @0 allocs 1 steps 5",
		// What leads to one object is one: a field that is set by one name is read by the other one.
		"p = new P/q = mov p/store q a 4/x = load p a/ret x":                                                     "ended 4 obj P(4 f0000000000000000 @0 @0) globals 0 @0 allocs 1 steps 5",
		"p = new P/store p n p/q = load p n/store q a 6/q = load q n/x = load q a/ret x":                         "ended 6 obj P(6 f0000000000000000 @1 @0) globals 0 @0 allocs 1 steps 7",
		"p = new P/q = new P/store p n q/store q n p/r = load p n/r = load r n/x = same r p/ret x":               "ended 1 obj P(0 f0000000000000000 @2 @0) obj P(0 f0000000000000000 @1 @0) globals 0 @0 allocs 2 steps 8",
		"p = new P 1 0f0000000000000000 null null/store p n p/store p n null/q = load p n/x = same q null/ret x": "ended 1 obj P(1 f0000000000000000 @0 @0) globals 0 @0 allocs 1 steps 6",
		"s = new Q/p = new P/store p q s/store s a 3/s = load p q/x = load s a/ret x":                            "ended 3 obj Q(@0 3) obj P(0 f0000000000000000 @0 @1) globals 0 @0 allocs 2 steps 7",
		"p = new P/gstore h p/q = gload h/store q a 2/r = gload h/x = load r a/ret x":                            "ended 2 obj P(2 f0000000000000000 @0 @0) globals 0 @1 allocs 1 steps 7",
		"p = new P/gstore h p/gstore h null/q = gload h/x = same q z/ret x":                                      "ended 1 obj P(0 f0000000000000000 @0 @0) globals 0 @0 allocs 1 steps 6",
	} {
		if got := withObjects(t, code); got != want {
			t.Errorf("%s:\n%s\nnot\n%s", code, got, want)
		}
	}
}

// Null has no field, wherever it comes from: what stands ahead is done, what stands behind isn't.
func TestNull(t *testing.T) {
	for _, use := range []string{"x = load r a", "w = load r u", "q = load r n", "s = load r q", "store r a 1", "store r u 0f3ff0000000000000", "store r n r", "store r n p", "store r q null"} {
		for _, set := range []string{"r = mov null", "r = mov z", "r = gload h", "r = load p n"} {
			code := "p = new P/" + set + "/out 1/" + use + "/out 2/store p a 9/ret 1"
			const want = "trapped 1 at f a 3 obj P(0 f0000000000000000 @0 @0) globals 0 @0 (1) marks 1 allocs 1 steps 4"
			if got := withObjects(t, code); got != want {
				t.Errorf("%s:\n%s\nnot\n%s", code, got, want)
			}
		}
	}
}

// What is loaded of null doesn't set the variable.
func TestNullSetsNothing(t *testing.T) {
	s := ran(t, classes+"func f int/param z P/var x int/block a/x = mov 5/x = load z a/ret x")
	hold(t, "load", s, "trapped 1 at f a 1 x=5 z=@0 globals 0 @0 steps 2")
}

func TestSame(t *testing.T) {
	const head = "p = new P/q = new P/r = mov p/store q n p/"
	for pair, want := range map[string]string{
		"p p": "1", "p q": "0", "q p": "0", "p r": "1", "r p": "1", "q r": "0", "q q": "1",
		"p z": "0", "z p": "0", "z z": "1", "p null": "0", "null p": "0", "null null": "1", "z null": "1", "null z": "1",
	} {
		got := withObjects(t, head+"x = mov 5/x = same "+pair+"/ret x")
		if !strings.HasPrefix(got, "ended "+want+" obj ") || !strings.HasSuffix(got, " steps 7") {
			t.Errorf("same %s: %s", pair, got)
		}
	}
	if got := withObjects(t, head+"r = load q n/x = same r p/ret x"); !strings.HasPrefix(got, "ended 1 ") {
		t.Error(got)
	}
}

// A list of as many objects as are asked for, gone through from the last one on.
func TestListOfObjects(t *testing.T) {
	s := ran(t, "class P/field a int/field n P/func f int/param k int/var p P/var q P/var x int/var y int/block a/q = mov null/y = mov 0/jump b/block b/p = new P k q/q = mov p/k = sub k 1/branch k b c/block c/x = load p a/y = mul y 10/y = add y x/p = load p n/x = same p null/branch x d c/block d/ret y", 9)
	hold(t, "list", s, "ended 123456789 obj P(9 @0) obj P(8 @1) obj P(7 @2) obj P(6 @3) obj P(5 @4) obj P(4 @5) obj P(3 @6) obj P(2 @7) obj P(1 @8) allocs 9 steps 93")
}

// States of which no promise speaks: what leads nowhere has no field, and is no object's.
func TestLeadsNowhere(t *testing.T) {
	p := parsed(t, classes+"func f int/param k int/param p P/param q P/var x int/block a/x = same p q/out x/x = load p a/ret x/func h int/param p P/block a/store p a 3/ret 1")
	one := []api.Object{{Class: "P", Vals: []api.Val{{Type: "int", N: 5}, heap.Nought("float"), {Type: "ref"}, {Type: "ref"}}}}
	for _, c := range []struct {
		heap    []api.Object
		p, q, n int64
		code    int64
	}{
		{one, 1, 1, 1, 0}, {one, 1, 0, 0, 0}, {one, 0, 0, 1, 1}, {one, 1, 2, 0, 0},
		{one, 2, 2, 0, 1}, {one, 2, 0, 0, 1}, {one, -1, -1, 0, 1}, {one, -1 << 63, 1, 0, 1}, {one, 1<<63 - 1, 1<<63 - 1, 0, 1}, {one, 1<<32 + 1, 1, 0, 1},
		{nil, 1, 1, 0, 1}, {nil, 0, 0, 1, 1},
	} {
		s := start(t, p)
		s.Heap = c.heap
		s.Frames[0].Vars["p"] = api.Val{Type: "ref", N: c.p}
		s.Frames[0].Vars["q"] = api.Val{Type: "ref", N: c.q}
		l := machine.Run(p, s, enough, nil, nil)
		if len(l.Trace) != 1 || l.Trace[0].Args[0] != c.n || l.Code != c.code || (l.Status == api.Trapped) != (c.code != 0) || c.code == 0 && l.Result.N != 5 {
			t.Errorf("%+v: %s", c, told(l))
		}
		s, _ = machine.Start(p, "h", nil)
		s.Heap = c.heap
		s.Frames[0].Vars["p"] = api.Val{Type: "ref", N: c.p}
		l = machine.Run(p, s, enough, nil, nil)
		if l.Code != c.code || (l.Status == api.Trapped) != (c.code != 0) || c.code == 0 && l.Heap[0].Vals[0].N != 3 {
			t.Errorf("%+v: %s", c, told(l))
		}
	}
	if one[0].Vals[0].N != 5 {
		t.Error("what was handed in is changed")
	}
}

// Objects that lack fields, or have a class that isn't declared, have none of that name.
func TestObjectsThatAreNotRight(t *testing.T) {
	p := parsed(t, classes+"func f int/param p P/var x int/block a/x = load p a/ret x")
	for _, o := range []api.Object{{}, {Class: "P"}, {Class: "Z", Vals: []api.Val{{Type: "int", N: 5}}}, {Class: "E", Vals: []api.Val{{Type: "int", N: 5}}}, {Class: "", Vals: []api.Val{{Type: "int", N: 5}}}} {
		s := start(t, p)
		s.Heap = []api.Object{o}
		s.Frames[0].Vars["p"] = api.Val{Type: "ref", N: 1}
		if l := machine.Run(p, s, enough, nil, nil); l.Status != api.Trapped || l.Code != api.NullCode {
			t.Errorf("%v: %s", o, told(l))
		}
	}
}
