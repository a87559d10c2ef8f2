package heap_test

import (
	"math/rand"
	"slices"
	"testing"

	"lateen/api"
	"lateen/heap"
)

// pairings calls do with each pairing of n objects with m objects, in which none stands twice, till do answers true, and tells whether it did: at each place the number of the other one, or 0.
func pairings(n, m int, do func([]int64) bool) bool {
	pairs := make([]int64, n)
	var from func(at int) bool
	from = func(at int) bool {
		if at == n {
			return do(pairs)
		}
		for other := int64(0); other <= int64(m); other++ {
			if other != 0 && slices.Contains(pairs[:at], other) {
				continue
			}
			pairs[at] = other
			if from(at + 1) {
				return true
			}
		}
		return false
	}
	return from(0)
}

// asked answers what Alike must: whether one of all pairings makes all alike that must be.
func asked(h []api.Object, a []api.Val, k []api.Object, b []api.Val) bool {
	return pairings(len(h), len(k), func(pairs []int64) bool {
		alike := func(a, b []api.Val) bool {
			return slices.EqualFunc(a, b, func(a, b api.Val) bool {
				switch {
				case a.Type != b.Type:
					return false
				case a.Type != "ref":
					return a.N == b.N
				case leads(a, len(h)):
					return leads(b, len(k)) && pairs[a.N-1] == b.N
				default:
					return !leads(b, len(k)) && (a.N == 0) == (b.N == 0)
				}
			})
		}
		for at, other := range pairs {
			if other != 0 && (h[at].Class != k[other-1].Class || !alike(h[at].Vals, k[other-1].Vals)) {
				return false
			}
		}
		return alike(a, b)
	})
}

// All heaps of two objects with a field each, against one another.
func TestAllOfTwoObjects(t *testing.T) {
	fields := values("@0 @1 @2 @3 2")
	var heaps [][]api.Object
	var lists [][]api.Val
	for _, v := range fields {
		for _, w := range fields {
			heaps = append(heaps, []api.Object{{Class: "P", Vals: []api.Val{v}}, {Class: "P", Vals: []api.Val{w}}})
			lists = append(lists, []api.Val{v, w})
		}
	}
	told := 0
	for _, h := range heaps {
		for _, k := range heaps {
			for _, a := range lists {
				for _, b := range lists {
					want := asked(h, a, k, b)
					if heap.Alike(h, a, k, b) != want {
						t.Fatalf("not %v: %v %v, %v %v", want, h, a, k, b)
					}
					if want {
						told++
					}
				}
			}
		}
	}
	if told < 5000 || told > 200000 {
		t.Error(told)
	}
}

// byChance answers a heap and values as chance has them.
func byChance(chance *rand.Rand) ([]api.Object, []api.Val) {
	n, kinds := chance.Intn(5), 1+chance.Intn(3)
	one := func() api.Val {
		switch chance.Intn(12) {
		case 0:
			return value("@0")
		case 1:
			return value([]string{"@-1", "@9", "@5"}[chance.Intn(3)])
		case 2:
			return value([]string{"1", "f1", "P:1", "2"}[chance.Intn(4)])
		}
		return api.Val{Type: "ref", N: int64(1 + chance.Intn(max(n, 1)))}
	}
	list := func(n int) []api.Val {
		var l []api.Val
		for range n {
			l = append(l, one())
		}
		return l
	}
	var h []api.Object
	for range n {
		h = append(h, api.Object{Class: []string{"P", "Q", ""}[chance.Intn(kinds)], Vals: list(chance.Intn(1 + kinds))})
	}
	return h, list(chance.Intn(4))
}

// changed answers copies of h and a, with one place of them changed.
func changed(chance *rand.Rand, h []api.Object, a []api.Val) ([]api.Object, []api.Val) {
	a = slices.Clone(a)
	h = slices.Clone(h)
	places := []*api.Val{}
	for at := range a {
		places = append(places, &a[at])
	}
	for at := range h {
		h[at].Vals = slices.Clone(h[at].Vals)
		for i := range h[at].Vals {
			places = append(places, &h[at].Vals[i])
		}
	}
	if len(places) > 0 {
		*places[chance.Intn(len(places))] = values("@0 @1 @2 @3 @4 @9 1 f1")[chance.Intn(8)]
	}
	return h, a
}

// Heaps as chance has them (always the same), against themselves in another order, such ones with a place changed, and others.
func TestByChance(t *testing.T) {
	chance := rand.New(rand.NewSource(15))
	told := map[bool]int{}
	for range 6000 {
		h, a := byChance(chance)
		order := chance.Perm(len(h))
		k, b := moved(h, a, len(h), func(at int) int { return order[at] }, api.Object{}, 77)
		switch chance.Intn(4) {
		case 0:
			k, b = byChance(chance)
		case 1, 2:
			k, b = changed(chance, k, b)
		}
		want := asked(h, a, k, b)
		told[want]++
		hold(t, h, a, k, b, want)
		if t.Failed() {
			return
		}
	}
	if told[true] < 2000 || told[false] < 2000 {
		t.Error(told)
	}
}

// Values of one heap that are alike to others, and these to others again, are alike to those.
func TestAlikeIsHandedOn(t *testing.T) {
	chance := rand.New(rand.NewSource(15))
	for range 300 {
		h, _ := byChance(chance)
		for x := range int64(len(h)) + 2 {
			for y := range int64(len(h)) + 2 {
				for z := range int64(len(h)) + 2 {
					tell := func(a, b int64) bool {
						return heap.Alike(h, []api.Val{{Type: "ref", N: a}}, h, []api.Val{{Type: "ref", N: b}})
					}
					if tell(x, y) && tell(y, z) && !tell(x, z) {
						t.Fatal(h, x, y, z)
					}
				}
			}
		}
	}
}
