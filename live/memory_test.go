package live_test

import (
	"math/rand"
	"reflect"
	"runtime"
	"slices"
	"strings"
	"testing"
	"unsafe"

	"lateen/api"
	"lateen/live"
)

// full has each part that a function may have.
const full = "param k int/param o P/var x P/var y int/block a/w = new P 5 null/store w a k/y = load w a/jump b/block b/phi x a w c x/phi y a y c k/x = call f 1 x/at f b 0 x #0 k y/at f b 1/obj P 1 #0/obj Q u/guard/at f b 5 v w/branch k b c/block c/branch x b d/block d/ret x"

// anew answers a copy of v with memory of its own; where fill is, each list has spare room, with parts in it.
func anew(v reflect.Value, fill bool) reflect.Value {
	c := reflect.New(v.Type()).Elem()
	switch v.Kind() {
	case reflect.Slice:
		l := reflect.MakeSlice(v.Type(), 0, v.Len())
		for i := range v.Len() {
			l = reflect.Append(l, anew(v.Index(i), fill))
		}
		if fill {
			spare := reflect.New(v.Type().Elem()).Elem()
			if v.Len() > 0 {
				spare = anew(v.Index(0), fill)
			}
			l = reflect.Append(l, spare, spare).Slice(0, v.Len())
		}
		c.Set(l)
	case reflect.Struct:
		for i := range v.NumField() {
			c.Field(i).Set(anew(v.Field(i), fill))
		}
	case reflect.String:
		c.SetString(strings.Clone(v.String()))
	default:
		c.Set(v)
	}
	return c
}

// copied answers a copy of x with memory of its own, as anew makes it.
func copied[T any](x T, fill bool) T {
	return anew(reflect.ValueOf(x), fill).Interface().(T)
}

// grown answers a copy of v whose lists have grown to their room.
func grown(v reflect.Value) reflect.Value {
	c := reflect.New(v.Type()).Elem()
	switch v.Kind() {
	case reflect.Slice:
		l := reflect.MakeSlice(v.Type(), 0, v.Cap())
		for i := range v.Cap() {
			l = reflect.Append(l, grown(v.Slice(0, v.Cap()).Index(i)))
		}
		c.Set(l)
	case reflect.Struct:
		for i := range v.NumField() {
			c.Field(i).Set(grown(v.Field(i)))
		}
	case reflect.String:
		c.SetString(strings.Clone(v.String()))
	default:
		c.Set(v)
	}
	return c
}

// stretch is where a text's or a list's bytes are, with its spare room.
type stretch struct {
	from, to uintptr
}

// stretches answers those of all that is in v.
func stretches(v reflect.Value) []stretch {
	var l []stretch
	switch v.Kind() {
	case reflect.String:
		if v.Len() > 0 {
			from := uintptr(unsafe.Pointer(unsafe.StringData(v.String())))
			l = append(l, stretch{from, from + uintptr(v.Len())})
		}
	case reflect.Slice:
		if size := uintptr(v.Cap()) * v.Type().Elem().Size(); size > 0 {
			l = append(l, stretch{v.Pointer(), v.Pointer() + size})
		}
		for i := range v.Len() {
			l = append(l, stretches(v.Index(i))...)
		}
	case reflect.Struct:
		for i := range v.NumField() {
			l = append(l, stretches(v.Field(i))...)
		}
	}
	return l
}

// told is what all calls answer of a function: at each block's first and last places, and of each instruction.
type told struct {
	Ins, At, Uses lists
	All           []lists
}

// answers answers that of f.
func answers(f api.Func) told {
	all := told{Ins: live.Ins(f), All: live.All(f)}
	for at, b := range f.Blocks {
		all.At = append(all.At, live.At(f, at, 0), live.At(f, at, len(b.Code)))
		for _, i := range b.Code {
			all.Uses = append(all.Uses, live.Uses(i))
		}
	}
	return all
}

// functions calls do with functions with each part, some of them as chance has them.
func functions(t *testing.T, do func(f api.Func)) {
	do(parsed(t, full))
	byChance(200, func(_ *rand.Rand, f api.Func) { do(f) })
}

// What is handed in stays as it was, its spare room too; what stands in spare room doesn't count.
func TestWhatIsHandedInStays(t *testing.T) {
	functions(t, func(bare api.Func) {
		f := copied(bare, true)
		ahead := grown(reflect.ValueOf(f)).Interface()
		if !reflect.DeepEqual(answers(f), answers(bare)) {
			t.Fatalf("something else with spare room:\n%+v", f)
		}
		live.At(f, len(f.Blocks), 0)
		live.At(f, 0, len(f.Blocks[0].Code)+1)
		if now := grown(reflect.ValueOf(f)).Interface(); !reflect.DeepEqual(ahead, now) {
			t.Fatalf("it is changed\n%+v to\n%+v", ahead, now)
		}
	})
}

// No answer shares memory with the function, nor two lists or names of it with one another, nor with another answer's.
func TestAnswersAreNewMemory(t *testing.T) {
	many := 0
	functions(t, func(f api.Func) {
		f = copied(f, true)
		one, other := answers(f), answers(f)
		own := stretches(reflect.ValueOf(f))
		ahead := len(own)
		own = append(append(own, stretches(reflect.ValueOf(one))...), stretches(reflect.ValueOf(other))...)
		many += len(own) - ahead
		slices.SortFunc(own, func(a, b stretch) int { return int(a.from) - int(b.from) })
		for at := 1; at < len(own); at++ {
			if own[at].from < own[at-1].to {
				t.Fatalf("memory is shared, of %+v", f)
			}
		}
		// Memory that is given back ahead of this might be handed out again.
		runtime.KeepAlive([]any{f, one, other})
	})
	if many < 20000 {
		t.Error(many)
	}
}

// What is laid into an answer is seen neither in what was handed in nor in the next answer, nor is what is laid into what was handed in seen in an answer.
func TestAnswersAreTheCallers(t *testing.T) {
	functions(t, func(f api.Func) {
		f = copied(f, false)
		first, bare := answers(f), copied(f, false)
		want := copied(first, false)
		laid := answers(f)
		change(reflect.ValueOf(&laid).Elem())
		if !reflect.DeepEqual(f, bare) || !reflect.DeepEqual(answers(f), first) {
			t.Fatalf("it is changed:\n%+v to\n%+v", bare, f)
		}
		change(reflect.ValueOf(&f).Elem())
		if reflect.DeepEqual(f, bare) || !reflect.DeepEqual(copied(first, false), want) {
			t.Fatalf("an answer is changed: %q", first)
		}
	})
}

// change changes each part of v, where it stands.
func change(v reflect.Value) {
	switch v.Kind() {
	case reflect.Slice:
		for i := range v.Len() {
			change(v.Index(i))
		}
	case reflect.Struct:
		for i := range v.NumField() {
			change(v.Field(i))
		}
	case reflect.String:
		v.SetString(v.String() + "x")
	case reflect.Int, reflect.Int64:
		v.SetInt(v.Int() + 1)
	}
}

// Nil and empty lists are one, handed in.
func TestNilAndEmptyLists(t *testing.T) {
	empty := api.Func{Blocks: []api.Block{
		{Name: "a", Phis: []api.Phi{}, Code: []api.Instr{{Op: api.Guard, Args: []api.Arg{}, Frames: []api.Frame{}, Objs: []api.Virt{}}, {Op: api.Call, Frames: []api.Frame{{Vars: []api.Bind{}}}, Objs: []api.Virt{{Vals: []api.Arg{}}}}}, End: api.Term{Kind: api.Jump, To: []string{"b"}}},
		{Name: "b", Phis: []api.Phi{{Dst: "x", Ins: []api.In{}}}, Code: []api.Instr{}, End: api.Term{Kind: api.Ret, A: variable("y"), To: []string{}}},
	}}
	none := api.Func{Blocks: []api.Block{
		{Name: "a", Code: []api.Instr{{Op: api.Guard}, {Op: api.Call, Frames: []api.Frame{{}}, Objs: []api.Virt{{}}}}, End: api.Term{Kind: api.Jump, To: []string{"b"}}},
		{Name: "b", Phis: []api.Phi{{Dst: "x"}}, End: api.Term{Kind: api.Ret, A: variable("y")}},
	}}
	for _, f := range []api.Func{empty, none} {
		hold(t, f, read("y/y/y|y"))
		if len(live.Uses(f.Blocks[0].Code[0]))+len(live.Uses(f.Blocks[0].Code[1])) > 0 {
			t.Error("something is used")
		}
	}
}

// What is answered hangs on what is handed in alone: asked again, among other calls, it is the same.
func TestNothingIsKept(t *testing.T) {
	f, other := parsed(t, full), parsed(t, strings.ReplaceAll(full, "x", "z"))
	first := answers(f)
	if reflect.DeepEqual(first, answers(other)) {
		t.Error("the other one isn't another")
	}
	for range 100 {
		if !reflect.DeepEqual(first, answers(f)) {
			t.Fatal("another time it is something else")
		}
	}
}
