package machine_test

import (
	"math/rand"
	"reflect"
	"runtime"
	"slices"
	"strings"
	"testing"
	"unsafe"

	"lateen/api"
	"lateen/machine"
)

// anew answers a copy of v with memory of its own; where fill is, each list has spare room, with parts in it.
func anew(v reflect.Value, fill bool) reflect.Value {
	c := reflect.New(v.Type()).Elem()
	switch v.Kind() {
	case reflect.Slice:
		if v.IsNil() && !fill {
			break
		}
		l := reflect.MakeSlice(v.Type(), 0, v.Len())
		for i := range v.Len() {
			l = reflect.Append(l, anew(v.Index(i), fill))
		}
		if fill {
			spare := reflect.New(v.Type().Elem()).Elem()
			if v.Len() > 0 {
				spare = anew(v.Index(0), fill)
			}
			l = reflect.Append(l, spare, spare).Slice(0, v.Len())
		}
		c.Set(l)
	case reflect.Map:
		c.Set(reflect.MakeMap(v.Type()))
		for _, key := range v.MapKeys() {
			c.SetMapIndex(anew(key, fill), anew(v.MapIndex(key), fill))
		}
	case reflect.Struct:
		for i := range v.NumField() {
			c.Field(i).Set(anew(v.Field(i), fill))
		}
	case reflect.String:
		c.SetString(strings.Clone(v.String()))
	default:
		c.Set(v)
	}
	return c
}

// copied answers a copy of x with memory of its own, as anew makes it.
func copied[T any](x T, fill bool) T {
	return anew(reflect.ValueOf(x), fill).Interface().(T)
}

// grown answers a copy of v whose lists have grown to their room.
func grown(v reflect.Value) reflect.Value {
	c := reflect.New(v.Type()).Elem()
	switch v.Kind() {
	case reflect.Slice:
		l := reflect.MakeSlice(v.Type(), 0, v.Cap())
		for i := range v.Cap() {
			l = reflect.Append(l, grown(v.Slice(0, v.Cap()).Index(i)))
		}
		c.Set(l)
	case reflect.Struct:
		for i := range v.NumField() {
			c.Field(i).Set(grown(v.Field(i)))
		}
	default:
		return anew(v, false)
	}
	return c
}

// given is all that calls may be handed.
type given struct {
	P                    api.Program
	Name                 string
	S                    api.State
	Fuel                 int64
	Args, Answers, Fails []int64
}

// answers are what calls answer.
type answers struct {
	Start, Run, Failed, Pass api.State
}

// call calls all there is.
func call(g given) answers {
	var a answers
	a.Start, _ = machine.Start(g.P, g.Name, g.Args)
	a.Run = machine.Run(g.P, g.S, g.Fuel, g.Answers, nil)
	a.Failed = machine.Run(g.P, g.S, g.Fuel, g.Answers, g.Fails)
	a.Pass = machine.Pass(g.S)
	return a
}

// samples calls do with what may be handed in, as chance has it, always the same, each in memory of its own: programs with states at which they came to stand.
func samples(t *testing.T, times int, do func(given)) {
	stood := map[int]int{}
	byChance(18, times, func(chance *rand.Rand, p api.Program) {
		g := given{P: p, Name: "f", Fuel: int64(chance.Intn(100))}
		g.Args, g.Answers, g.Fails = handedIn(chance)
		g.S = start(t, p, g.Args...)
		for range chance.Intn(3) {
			s := machine.Run(p, g.S, int64(chance.Intn(80)), g.Answers, g.Fails)
			if s.Status == api.Failed && chance.Intn(2) == 0 {
				s = machine.Pass(s)
			}
			g.S = s
		}
		stood[g.S.Status]++
		do(copied(g, false))
	})
	for status := api.Runs; status <= api.Failed; status++ {
		if stood[status] < times/50 {
			t.Error(stood)
		}
	}
}

// What is handed in stays as it was, its spare room too; what stands in spare room doesn't count.
func TestWhatIsHandedInStays(t *testing.T) {
	samples(t, 400, func(bare given) {
		g := copied(bare, true)
		ahead := grown(reflect.ValueOf(g)).Interface()
		got, want := call(g), call(bare)
		if now := grown(reflect.ValueOf(g)).Interface(); !reflect.DeepEqual(ahead, now) {
			t.Fatalf("it is changed:\n%+v to\n%+v", ahead, now)
		}
		for at, s := range []api.State{got.Start, got.Run, got.Failed, got.Pass} {
			if other := []api.State{want.Start, want.Run, want.Failed, want.Pass}[at]; told(s) != told(other) {
				t.Fatalf("something else with spare room:\n%s\nnot\n%s", told(s), told(other))
			}
		}
	})
}

// stretch is where a text's, a list's or a map's bytes are, with its spare room.
type stretch struct {
	from, to uintptr
}

// stretches answers those of all that is in v, of its texts too, if they are asked for.
func stretches(v reflect.Value, texts bool) []stretch {
	var l []stretch
	switch v.Kind() {
	case reflect.String:
		if texts && v.Len() > 0 {
			from := uintptr(unsafe.Pointer(unsafe.StringData(v.String())))
			l = append(l, stretch{from, from + uintptr(v.Len())})
		}
	case reflect.Slice:
		if size := uintptr(v.Cap()) * v.Type().Elem().Size(); size > 0 {
			l = append(l, stretch{v.Pointer(), v.Pointer() + size})
		}
		for i := range v.Len() {
			l = append(l, stretches(v.Index(i), texts)...)
		}
	case reflect.Map:
		l = append(l, stretch{v.Pointer(), v.Pointer() + 1})
		for _, key := range v.MapKeys() {
			l = append(l, stretches(key, texts)...)
			l = append(l, stretches(v.MapIndex(key), texts)...)
		}
	case reflect.Struct:
		for i := range v.NumField() {
			l = append(l, stretches(v.Field(i), texts)...)
		}
	}
	return l
}

// share answers whether two stretches of l have bytes in common.
func share(l []stretch) bool {
	slices.SortFunc(l, func(a, b stretch) int { return int(a.from) - int(b.from) })
	for at := 1; at < len(l); at++ {
		if l[at].from < l[at-1].to {
			return true
		}
	}
	return false
}

// No answer shares memory with what was handed in, texts neither, nor two lists or maps of an answer with one another, nor with another answer's.
func TestAnswersAreNewMemory(t *testing.T) {
	many := 0
	samples(t, 1000, func(g given) {
		g = copied(g, true)
		one, other := call(g), call(g)
		told := append(stretches(reflect.ValueOf(one), false), stretches(reflect.ValueOf(other), false)...)
		many += len(told)
		if share(told) {
			t.Fatalf("memory is shared among answers, of %+v", g)
		}
		own := stretches(reflect.ValueOf(g), true)
		slices.SortFunc(own, func(a, b stretch) int { return int(a.from) - int(b.from) })
		for _, s := range append(stretches(reflect.ValueOf(one), true), stretches(reflect.ValueOf(other), true)...) {
			at, _ := slices.BinarySearchFunc(own, s, func(o, s stretch) int { return int(o.to-1) - int(s.from) })
			if at < len(own) && own[at].from < s.to {
				t.Fatalf("memory is shared with what was handed in, of %+v", g)
			}
		}
		// Memory that is given back ahead of this might be handed out again.
		runtime.KeepAlive([]any{g, one, other})
	})
	if many < 10000 {
		t.Error(many)
	}
}

// lay lays other things into all that is in v, where it stands.
func lay(v reflect.Value) {
	switch v.Kind() {
	case reflect.String:
		v.SetString("laid")
	case reflect.Int64, reflect.Int:
		v.SetInt(-77)
	case reflect.Slice:
		reflect.Append(v, reflect.Zero(v.Type().Elem()))
		for i := range v.Len() {
			lay(v.Index(i))
		}
	case reflect.Map:
		for _, key := range v.MapKeys() {
			v.SetMapIndex(key, reflect.Zero(v.Type().Elem()))
		}
		v.SetMapIndex(reflect.ValueOf("laid"), reflect.Zero(v.Type().Elem()))
	case reflect.Struct:
		for i := range v.NumField() {
			lay(v.Field(i))
		}
	}
}

// What is laid into an answer, or behind it, is seen neither in what was handed in nor in another answer, nor is what is laid into what was handed in seen in an answer.
func TestAnswersAreTheCallers(t *testing.T) {
	samples(t, 300, func(g given) {
		g = copied(g, true)
		ahead := grown(reflect.ValueOf(g)).Interface()
		laid, want := call(g), call(g)
		kept := copied(want, false)
		lay(reflect.ValueOf(&laid).Elem())
		if !reflect.DeepEqual(grown(reflect.ValueOf(g)).Interface(), ahead) {
			t.Fatalf("it is changed:\n%+v", g)
		}
		if !reflect.DeepEqual(want, kept) || !reflect.DeepEqual(call(g), want) {
			t.Fatalf("another answer is changed: %+v", want)
		}
		lay(reflect.ValueOf(&g).Elem())
		if !reflect.DeepEqual(want, kept) {
			t.Fatalf("an answer is changed: %+v", want)
		}
	})
}

// Objects and frames whose lists or maps are one in what is handed in have two in the answer.
func TestWhatIsOneInWhatIsHandedIn(t *testing.T) {
	p := parsed(t, "class P/field a int/func f int/param k int/param p P/var x int/block a/store p a 5/x = call h k/ret x/func h int/param k int/block a/k = add k 1/ret k")
	row := []api.Val{{Type: "int", N: 1}}
	vars := map[string]api.Val{"k": {Type: "int", N: 3}, "p": {Type: "ref", N: 2}}
	s := api.State{Frames: []api.Live{{Func: "f", Block: "a", Vars: vars}}, Heap: []api.Object{{Class: "P", Vals: row}, {Class: "P", Vals: row}}}
	hold(t, "one row", machine.Run(p, s, enough, nil, nil), "ended 4 obj P(1) obj P(5) steps 5")
	s.Frames = []api.Live{{Func: "f", Block: "a", At: 1, Vars: vars}, {Func: "h", Block: "a", Vars: vars}}
	hold(t, "one map", machine.Run(p, s, 1, nil, nil), "spent at f a 1 k=3 p=@2 at h a 1 k=4 p=@2 obj P(1) obj P(1) steps 1")
	if row[0].N != 1 || len(vars) != 2 || vars["k"].N != 3 {
		t.Error("what was handed in is changed")
	}
}

// Of frames that went nothing is left behind those that are answered.
func TestFramesThatWent(t *testing.T) {
	p := parsed(t, "func f int/param k int/var x int/block a/branch k b c/block b/x = sub k 1/x = call f x/ret x/block c/ret 7")
	for fuel := range int64(40) {
		s := machine.Run(p, start(t, p, 9), fuel, nil, nil)
		for _, l := range s.Frames[len(s.Frames):cap(s.Frames)] {
			if l.Func != "" || l.Vars != nil {
				t.Fatal(fuel, l)
			}
		}
	}
}

// Nil and empty lists and maps are one, handed in.
func TestNilAndEmptyLists(t *testing.T) {
	nils := api.Program{Funcs: []api.Func{{Name: "f", Result: "int", Blocks: []api.Block{{Name: "a", Code: []api.Instr{{Op: api.Guard}}, End: api.Term{Kind: api.Ret, A: api.Arg{Kind: api.KInt, N: 1}}}}}}}
	empty := copied(nils, true)
	for _, p := range []api.Program{nils, empty} {
		for _, l := range [][]int64{nil, {}} {
			s, e := machine.Start(p, "f", l)
			hold(t, "started", s, "runs at f a 0")
			if e != api.OK {
				t.Error(e)
			}
			for _, s := range []api.State{s, copied(s, true), {Frames: []api.Live{{Func: "f", Block: "a"}}}} {
				hold(t, "run", machine.Run(p, s, enough, l, l), "ended 1 steps 2 guards 1")
				hold(t, "failed", machine.Run(p, s, enough, l, []int64{0}), "failed at f a 0 steps 1 guards 1")
				hold(t, "passed", machine.Pass(s), "runs at f a 0")
			}
		}
	}
}

// What is answered hangs on what is handed in alone: asked again, among other calls, it is the same.
func TestNothingIsKept(t *testing.T) {
	var all []given
	var want []answers
	samples(t, 300, func(g given) {
		all = append(all, g)
		want = append(want, call(g))
	})
	for range 3 {
		for at := range slices.Backward(all) {
			if got := call(all[at]); !reflect.DeepEqual(got, want[at]) {
				t.Fatalf("%+v: %+v, not %+v", all[at], got, want[at])
			}
		}
	}
}

// Runs at the same time don't touch one another's.
func TestAtTheSameTime(t *testing.T) {
	samples(t, 100, func(g given) {
		want := call(g)
		done := make(chan answers)
		for range 4 {
			go func() { done <- call(g) }()
		}
		for range 4 {
			if got := <-done; !reflect.DeepEqual(got, want) {
				t.Errorf("%+v: %+v, not %+v", g, got, want)
			}
		}
	})
}
