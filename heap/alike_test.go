package heap_test

import (
	"fmt"
	"math"
	"slices"
	"strings"
	"testing"

	"lateen/api"
	"lateen/heap"
)

// leads tells whether v is a number of one of n objects.
func leads(v api.Val, n int) bool { return v.Type == "ref" && v.N > 0 && v.N <= int64(n) }

// moved answers h and a with the object at each place laid at the place that to tells, of a heap of n objects; the places that are left have objects that lead to others. What leads nowhere, leads there by another number.
func moved(h []api.Object, a []api.Val, n int, to func(at int) int, stray api.Object, nowhere int64) ([]api.Object, []api.Val) {
	follow := func(l []api.Val) []api.Val {
		l = slices.Clone(l)
		for at, v := range l {
			if leads(v, len(h)) {
				l[at].N = int64(to(int(v.N)-1)) + 1
			} else if v.Type == "ref" && v.N != 0 {
				l[at].N = nowhere
			}
		}
		return l
	}
	k := make([]api.Object, n)
	for at := range k {
		k[at] = stray
	}
	for at, o := range h {
		k[to(at)] = api.Object{Class: o.Class, Vals: follow(o.Vals)}
	}
	return k, follow(a)
}

// guises answers h and a with objects more, to which nothing leads, ahead of the others, behind them, between them, and with the objects the other way round.
func guises(h []api.Object, a []api.Val, do func([]api.Object, []api.Val)) {
	n := len(h)
	do(h, a)
	do(moved(h, a, n, func(at int) int { return at }, api.Object{}, math.MinInt64))
	do(moved(h, a, n, func(at int) int { return n - 1 - at }, api.Object{}, math.MaxInt64))
	do(moved(h, a, n+3, func(at int) int { return at }, api.Object{Class: "P", Vals: values("@1 @2")}, -1))
	do(moved(h, a, n+2, func(at int) int { return at + 2 }, api.Object{Class: "Q", Vals: values("@3 @1 @4")}, int64(n)+3))
	do(moved(h, a, 2*n+1, func(at int) int { return 2*at + 1 }, api.Object{Class: "P", Vals: values("@2")}, -7))
}

// hold fails the test, if a and b aren't told to be alike, or not, in whatever guise and either way round.
func hold(t *testing.T, h []api.Object, a []api.Val, k []api.Object, b []api.Val, want bool) {
	t.Helper()
	tell := func(h []api.Object, a []api.Val, k []api.Object, b []api.Val, want bool) {
		t.Helper()
		if heap.Alike(h, a, k, b) != want {
			t.Fatalf("not %v:\n%.300s\n%.300s\n%.300s\n%.300s", want, fmt.Sprint(h), fmt.Sprint(a), fmt.Sprint(k), fmt.Sprint(b))
		}
	}
	guises(h, a, func(l []api.Object, c []api.Val) {
		tell(l, c, k, b, want)
		tell(k, b, l, c, want)
		tell(l, c, l, c, true)
		tell(h, a, l, c, true)
		tell(l, c, h, a, true)
	})
	guises(k, b, func(l []api.Object, c []api.Val) {
		tell(h, a, l, c, want)
		tell(l, c, h, a, want)
		tell(k, b, l, c, true)
		tell(l, c, l, c, true)
	})
}

// says holds heaps and values that are written as texts.
func says(t *testing.T, h, a, k, b string, want bool) {
	t.Helper()
	hold(t, objects(h), values(a), objects(k), values(b), want)
}

func TestAlikeValues(t *testing.T) {
	const far, low = "9223372036854775807", "-9223372036854775808"
	for _, c := range []struct {
		a, b string
		want bool
	}{
		{"", "", true}, {"", "0", false}, {"", "@0", false}, {"1 1", "1", false}, {"@1 @1", "@1", false}, {"@0 @0 @0", "@0 @0", false},
		{"1", "1", true}, {"1", "2", false}, {"0", "0", true}, {"-1", "1", false}, {low, low, true}, {far, low, false},
		{"f1", "f1", true}, {"f1", "f2", false}, {"f0", "f" + low, false}, {"1", "f1", false}, {"0", "f0", false},
		{"f9221120237041090561", "f9221120237041090561", true}, {"f9221120237041090561", "f9221120237041090562", false},
		{"0", "@0", false}, {"1", "@1", false}, {"f0", "@0", false}, {"-1", "@-1", false},
		{"P:1", "P:1", true}, {"P:1", "P:2", false}, {"P:1", "Q:1", false}, {"P:0", "@0", false}, {"P:1", "@1", false}, {"P:9", "@9", false}, {"P:1", "1", false},
		{":1", ":1", true}, {":1", ":2", false}, {":1", "1", false}, {":0", "null:0", false}, {"null:0", "@0", false}, {"null:3", "null:3", true}, {"null:3", "null:4", false},
		{"Ref:8", "Ref:9", false}, {"Ref:8", "Ref:8", true}, {"Ref:8", "@8", false}, {"ref\x00:8", "ref\x00:9", false}, {"obj:8", "obj:9", false},
		{"@0", "@0", true}, {"@0", "@1", false}, {"@0", "@9", false}, {"@0", "@-1", false}, {"@0", "@" + low, false}, {"@0", "@" + far, false},
		{"@9", "@9", true}, {"@9", "@8", true}, {"@3", "@-1", true}, {"@" + low, "@" + far, true}, {"@" + far, "@3", true}, {"@4294967297", "@-4294967295", true},
		{"@9", "@1", false}, {"@-1", "@1", false}, {"@-1", "@2", false}, {"@4294967297", "@1", false}, {"@" + low, "@2", false}, {"@3", "@2", false},
		{"@9 @9", "@9 @8", true}, {"@9 @8", "@3 @3", true}, {"@0 @9", "@9 @0", false}, {"@9 @1", "@8 @1", true}, {"@9 @1", "@1 @9", false},
		{"@1", "@1", true}, {"@1", "@2", false}, {"@1 @2", "@1 @2", true}, {"@1 @2", "@2 @1", false}, {"@1 @1", "@1 @1", true}, {"@2 @1 @2", "@2 @1 @2", true},
		{"1 f2 @1 @0 P:3", "1 f2 @1 @0 P:3", true}, {"1 f2 @1 @0 P:3", "1 f2 @1 @0 P:4", false}, {"1 f2 @1 @0 P:3", "0 f2 @1 @0 P:3", false}, {"1 2", "2 1", false},
	} {
		says(t, "P 1/Q", c.a, "P 1/Q", c.b, c.want)
	}
}

// Of heaps without an object, nothing leads to one.
func TestAlikeWithoutObjects(t *testing.T) {
	says(t, "", "", "", "", true)
	says(t, "", "@1", "", "@2", true)
	says(t, "", "@1", "", "@0", false)
	says(t, "", "@1", "P", "@1", false)
	says(t, "", "@1", "P", "@2", true)
	says(t, "", "@1", "P", "@0", false)
	says(t, "", "@0 1", "P", "@0 1", true)
	says(t, "", "", "P", "", true)
}

func TestAlikeObjects(t *testing.T) {
	for _, c := range []struct {
		h, k string
		want bool
	}{
		{"P", "P", true}, {"P", "Q", false}, {"P 1", "Q 1", false}, {" 1", " 1", true}, {" 1", "P 1", false}, {"P", "P\x00", false},
		{"P 1", "P 1", true}, {"P 1", "P 2", false}, {"P 1", "P", false}, {"P 1 1", "P 1", false}, {"P @0", "P", false}, {"P 0 0 0", "P 0 0 0", true}, {"P 1 2", "P 2 1", false},
		{"P 1", "P f1", false}, {"P 0", "P @0", false}, {"P P:1", "P P:1", true}, {"P P:1", "P Q:1", false}, {"P :1", "P :1", true},
		{"P @0", "P @0", true}, {"P @0", "P @9", false}, {"P @8", "P @9", true}, {"P @-8", "P @7", true}, {"P @9", "P @1", false}, {"P @0", "P @1", false},
		{"P @1", "P @1", true}, {"P @1", "P @2/P @2", false}, {"P @1", "P @2/P @1", false}, {"P @2/P @2", "P @2/P @1", false}, {"P @2/P @1", "P @2/P @1", true},
		{"P @2/P 1", "P @2/P 1", true}, {"P @2/P 1", "P @2/P 2", false}, {"P @2/P 1", "P @2/Q 1", false}, {"P @2/P 1", "P @2/P 1 1", false},
		{"P @2 @3/P 1/P 1", "P @2 @3/P 1/P 1", true}, {"P @2 @2/P 1", "P @2 @3/P 1/P 1", false}, {"P @2 @3/P 1/P 2", "P @3 @2/P 2/P 1", true}, {"P @2 @3/P 1/P 2", "P @2 @3/P 2/P 1", false},
		{"P @2 @3/P @3/P", "P @2 @3/P @4/P/P", false}, {"P @2 @3/P @3/P", "P @3 @2/P/P @2", true}, {"P @2 @3/P @4/P @4/P", "P @2 @3/P @4/P @5/P/P", false}, {"P @2 @3/P @4/P @5/P/P", "P @2 @3/P @5/P @4/P/P", true},
		{"P @1 @2/P @1 @2", "P @1 @2/P @1 @2", true}, {"P @1 @2/P @1 @2", "P @1 @2/P @2 @1", false}, {"P @1 @2/P @2 @1", "P @1 @2/P @2 @1", true}, {"P @2 @1/P @2 @1", "P @1 @2/P @2 @1", false},
	} {
		says(t, c.h, "@1", c.k, "@1", c.want)
		says(t, c.h, "@1 @1 7", c.k, "@1 @1 7", c.want)
	}
}

// One object would have to stand for two.
func TestOneForTwo(t *testing.T) {
	const h, k = "P 1/P 1", "P 1/P 1/P 1"
	says(t, h, "@1 @1", k, "@1 @2", false)
	says(t, h, "@1 @1", k, "@2 @2", true)
	says(t, h, "@1 @2", k, "@3 @1", true)
	says(t, h, "@1 @2 @1", k, "@1 @2 @3", false)
	says(t, h, "@1 @2 @1", k, "@1 @2 @2", false)
	says(t, h, "@1 @2 @1", k, "@3 @2 @3", true)
	says(t, h, "@1 @1 @2 @2", k, "@1 @2 @2 @1", false)
	says(t, h, "@1 @2", k, "@2 @2", false)
	// By fields alone, and by a value and a field.
	says(t, "P @3/P @3/Q", "@1 @2", "P @3/P @4/Q/Q", "@1 @2", false)
	says(t, "P @3/P @3/Q", "@1 @2", "P @3/P @3/Q", "@2 @1", true)
	says(t, "P @2/Q", "@1 @2", "P @2/Q/Q", "@1 @3", false)
	says(t, "P @2/Q", "@2 @1", "P @2/Q/Q", "@3 @1", false)
	says(t, "P @2/Q", "@1 @2", "P @2/Q/Q", "@1 @2", true)
	says(t, "P @2 @3/P @3/P 1", "@1", "P @2 @3/P @4/P 1/P 1", "@1", false)
}

// The same heap on both sides: an object of the one may be paired with another one of the other.
func TestSameHeapOnBothSides(t *testing.T) {
	for _, c := range []struct {
		h, a, b string
		want    bool
	}{
		{"P/P", "@1", "@2", true}, {"P/P", "@1 @2", "@2 @1", true}, {"P/P", "@1 @2", "@1 @2", true}, {"P/P", "@1 @2", "@2 @2", false}, {"P/P", "@1 @1", "@1 @2", false},
		{"P @2/P @1", "@1", "@2", true}, {"P @2/P @1", "@1 @2", "@2 @1", true}, {"P @2/P @1", "@1 @2", "@1 @2", true}, {"P @2/P @1", "@1 @1", "@2 @1", false},
		{"P @1/P @3/P @2", "@1", "@2", false}, {"P @1/P @3/P @2", "@2", "@3", true}, {"P @1/P @1", "@1", "@2", false}, {"P @1/P @2", "@1", "@2", true},
		{"P @2/P @3/P @1", "@1 @2 @3", "@2 @3 @1", true}, {"P @2/P @3/P @1", "@1 @2 @3", "@2 @1 @3", false}, {"P @2/P @3/P @1", "@1 @2", "@3 @1", true},
		{"P @2/P @3/P @0", "@1", "@2", false}, {"P @2/P @0/P @4/P @0", "@1", "@3", true}, {"P @2/P @0/P @2", "@1", "@3", true}, {"P @2/P @0/P @2", "@1 @3", "@3 @1", true}, {"P @2/P @0/P @2", "@1 @2", "@3 @1", false},
	} {
		h := objects(c.h)
		hold(t, h, values(c.a), h, values(c.b), c.want)
		says(t, c.h, c.a, c.h, c.b, c.want)
	}
}

// ring answers n objects, each of which leads to the next one, and the last one to the first one.
func ring(n int) []api.Object {
	l := make([]api.Object, n)
	for at := range l {
		l[at] = api.Object{Class: "P", Vals: []api.Val{{Type: "ref", N: int64((at+1)%n) + 1}}}
	}
	return l
}

// Ways round: an object that leads to itself, and one of two that lead to one another, aren't alike; so it is with any two lengths.
func TestWaysRound(t *testing.T) {
	for n := 1; n <= 12; n++ {
		for m := 1; m <= 12; m++ {
			hold(t, ring(n), values("@1"), ring(m), values("@1"), n == m)
			h, k := ring(n), ring(m)
			hold(t, h, values("@1"), k, []api.Val{{Type: "ref", N: int64(m)}}, n == m)
			// A mark on the last one of each ring.
			h[n-1].Vals = append(h[n-1].Vals, value("7"))
			k[m-1].Vals = append(k[m-1].Vals, value("7"))
			hold(t, h, values("@1"), k, values("@1"), n == m)
			hold(t, h, values("@1"), k, []api.Val{{Type: "ref", N: int64(m)}}, n == 1 && m == 1)
		}
	}
}

// A way ahead of a way round: of each length.
func TestWaysIntoWaysRound(t *testing.T) {
	tail := func(n, m int) []api.Object {
		l := ring(n + m)
		l[n+m-1].Vals[0].N = int64(n) + 1
		return l
	}
	for all := range 7 {
		for n := range all + 1 {
			for m := range all + 1 {
				hold(t, tail(n, all-n+1), values("@1"), tail(m, all-m+1), values("@1"), n == m)
			}
		}
	}
}

// Long chains, with an end that is alike or isn't.
func TestLongChains(t *testing.T) {
	const n = 3000
	chain := func(n int, end string) []api.Object {
		l := ring(n)
		l[n-1].Vals[0] = value(end)
		return l
	}
	for _, c := range []struct {
		one, other string
		want       bool
	}{{"@0", "@0", true}, {"@0", "@1", false}, {"@1", "@1", true}, {"@1", "@2", false}, {"7", "7", true}, {"7", "8", false}, {"@-1", "@3001", true}, {"@3000", "@3000", true}, {"@2999", "@3000", false}} {
		hold(t, chain(n, c.one), values("@1"), chain(n, c.other), values("@1"), c.want)
	}
	hold(t, chain(n, "@0"), values("@1"), chain(n, "@0"), values("@2"), false)
	hold(t, chain(n, "@1"), values("@1"), chain(n, "@1"), values("@2"), true)
	const far = 300000
	h, k := chain(far, "@0"), chain(far, "@9000000")
	if !heap.Alike(h, values("@1"), h, values("@1")) || heap.Alike(h, values("@1"), k, values("@1")) || heap.Alike(h, values("@1"), h, values("@2")) {
		t.Error("a chain of", far)
	}
}

// Objects to which many fields lead, and which lead to many.
func TestManyFields(t *testing.T) {
	const n = 300
	full := func() []api.Object {
		l := make([]api.Object, n)
		for at := range l {
			l[at].Class = "P"
			for to := range n {
				l[at].Vals = append(l[at].Vals, api.Val{Type: "ref", N: int64(to) + 1})
			}
		}
		return l
	}
	h := full()
	if !heap.Alike(h, values("@1 @300"), full(), values("@1 @300")) || heap.Alike(h, values("@1"), full(), values("@2")) || heap.Alike(h, values("@2 @1"), full(), values("@1 @2")) {
		t.Error("each to each")
	}
	k := full()
	k[n-1].Vals[n-1].N = 1
	if heap.Alike(h, values("@1"), k, values("@1")) || heap.Alike(k, values("@1"), h, values("@1")) {
		t.Error("each to each, but one field")
	}
	fan := objects("P/Q")
	for range 20000 {
		fan[0].Vals = append(fan[0].Vals, value("@2"))
		fan[1].Vals = append(fan[1].Vals, value("@1"))
	}
	hold(t, fan, values("@1"), fan, values("@1"), true)
	other := objects("P/Q/Q")
	other[0].Vals = append(slices.Clone(fan[0].Vals[:19999]), value("@3"))
	other[1].Vals, other[2].Vals = fan[1].Vals, fan[1].Vals
	hold(t, fan, values("@1"), other, values("@1"), false)
}

// Two ways to each of many objects: each pair is gone through once, not once for each way.
func TestManyWays(t *testing.T) {
	l := make([]api.Object, 2000)
	for at := range l {
		to := api.Val{Type: "ref", N: int64(at) + 2}
		l[at] = api.Object{Class: "P", Vals: []api.Val{to, to, to}}
	}
	hold(t, l, values("@1"), l, values("@1"), true)
	hold(t, l, values("@1"), l, values("@2"), false)
	k := slices.Clone(l)
	k[1999].Vals = values("@0 @0 @0")
	hold(t, l, values("@1"), k, values("@1"), false)
}

// Long lists of values, of which the last ones alone aren't alike.
func TestLongLists(t *testing.T) {
	a := values(strings.Repeat("1 f2 @0 @1 @2 @9 ", 5000))
	b := slices.Clone(a)
	hold(t, objects("P @2/P @1"), a, objects("P @2/P @1"), b, true)
	b[len(b)-2].N = 1
	hold(t, objects("P @2/P @1"), a, objects("P @2/P @1"), b, false)
	hold(t, objects("P @2/P @1"), a, objects("P @2/P @1"), a[:len(a)-1], false)
}
