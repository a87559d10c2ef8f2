package assign_test

import (
	"math/rand"
	"reflect"
	"runtime"
	"slices"
	"strings"
	"testing"
	"unsafe"

	"lateen/api"
	"lateen/assign"
)

// full has each part that a function may have; it is sound.
const full = "param k int/param o P/var x P/var y int/block a/w = new P 5 null/store w a k/v = load w a/jump b/block b/phi x a w c x/phi y a v c k/z = call f 1 x/at f b 0 x #0 k y/at f b 1/obj P 1 #0/obj Q o/guard/at f b 5 v w/branch k b c/block c/branch z b d/block d/ret x"

// functions calls do with functions with each part, some of them as chance has them, which have memory of their own.
func functions(t *testing.T, do func(api.Func)) {
	do(parsed(t, full))
	byChance(300, func(_ *rand.Rand, f api.Func) { do(f) })
}

// each calls do with v and with all that is in it, where it stands.
func each(v reflect.Value, do func(reflect.Value)) {
	do(v)
	switch v.Kind() {
	case reflect.Slice:
		for i := range v.Len() {
			each(v.Index(i), do)
		}
	case reflect.Struct:
		for i := range v.NumField() {
			each(v.Field(i), do)
		}
	}
}

// roomy answers f with lists of its own, each of which has spare room, with parts in it.
func roomy(f api.Func) api.Func {
	each(reflect.ValueOf(&f).Elem(), func(v reflect.Value) {
		if v.Kind() != reflect.Slice {
			return
		}
		l := reflect.MakeSlice(v.Type(), v.Len()+2, v.Len()+2)
		reflect.Copy(l, v)
		if v.Len() > 0 {
			l.Index(v.Len()).Set(v.Index(0))
		}
		v.Set(l.Slice(0, v.Len()))
	})
	return f
}

// parts answers all texts and numbers that are in v, its spare room too.
func parts(v reflect.Value) []any {
	var l []any
	switch v.Kind() {
	case reflect.Slice:
		for i := range v.Cap() {
			l = append(l, parts(v.Slice(0, v.Cap()).Index(i))...)
		}
	case reflect.Struct:
		for i := range v.NumField() {
			l = append(l, parts(v.Field(i))...)
		}
	case reflect.String:
		l = append(l, strings.Clone(v.String()))
	default:
		l = append(l, v.Interface())
	}
	return l
}

// What is handed in stays as it was, its spare room too; what stands in spare room doesn't count.
func TestWhatIsHandedInStays(t *testing.T) {
	functions(t, func(bare api.Func) {
		ins, right := assign.Ins(bare), assign.Right(bare)
		f := roomy(bare)
		ahead := parts(reflect.ValueOf(f))
		hold(t, f, ins, right)
		if !slices.Equal(parts(reflect.ValueOf(f)), ahead) {
			t.Fatalf("it is changed to\n%+v", f)
		}
	})
}

// stretch is where a text's or a list's bytes are, with its spare room.
type stretch struct {
	from, to uintptr
}

// stretches answers those of all that is in v.
func stretches(v reflect.Value) []stretch {
	var l []stretch
	each(v, func(v reflect.Value) {
		var from, size uintptr
		switch v.Kind() {
		case reflect.String:
			from, size = uintptr(unsafe.Pointer(unsafe.StringData(v.String()))), uintptr(v.Len())
		case reflect.Slice:
			from, size = v.Pointer(), uintptr(v.Cap())*v.Type().Elem().Size()
		}
		if size > 0 {
			l = append(l, stretch{from, from + size})
		}
	})
	return l
}

// No answer shares memory with the function, nor two lists or names of it with one another, nor with another answer's.
func TestAnswersAreNewMemory(t *testing.T) {
	many := 0
	functions(t, func(f api.Func) {
		f = roomy(f)
		own := stretches(reflect.ValueOf(f))
		one, other := assign.Ins(f), assign.Ins(f)
		told := append(stretches(reflect.ValueOf(one)), stretches(reflect.ValueOf(other))...)
		many += len(told)
		slices.SortFunc(told, func(a, b stretch) int { return int(a.from) - int(b.from) })
		for at, s := range told {
			if at > 0 && s.from < told[at-1].to || slices.ContainsFunc(own, func(o stretch) bool { return s.from < o.to && o.from < s.to }) {
				t.Fatalf("memory is shared, of %+v", f)
			}
		}
		// Memory that is given back ahead of this might be handed out again.
		runtime.KeepAlive([]any{f, one, other})
	})
	if many < 5000 {
		t.Error(many)
	}
}

// What is laid into an answer, or behind it, is seen neither in what was handed in nor in the next answer, nor is what is laid into what was handed in seen in an answer.
func TestAnswersAreTheCallers(t *testing.T) {
	functions(t, func(f api.Func) {
		f = roomy(f)
		ahead := parts(reflect.ValueOf(f))
		laid, want := assign.Ins(f), assign.Ins(f)
		for at := range laid {
			for i := range laid[at] {
				laid[at][i] = "laid"
			}
			laid[at] = append(laid[at], "behind")
		}
		if !slices.Equal(parts(reflect.ValueOf(f)), ahead) {
			t.Fatalf("it is changed to\n%+v", f)
		}
		hold(t, f, want, assign.Right(f))
		kept := parts(reflect.ValueOf(want))
		each(reflect.ValueOf(&f).Elem(), func(v reflect.Value) {
			if v.Kind() == reflect.String {
				v.SetString("laid")
			}
		})
		if !slices.Equal(parts(reflect.ValueOf(want)), kept) {
			t.Fatalf("an answer is changed: %q", want)
		}
	})
}

// Nil and empty lists are one, handed in.
func TestNilAndEmptyLists(t *testing.T) {
	empty := api.Func{Params: []api.Var{}, Vars: []api.Var{}, Blocks: []api.Block{
		{Name: "a", Phis: []api.Phi{}, Code: []api.Instr{{Op: api.Guard, Args: []api.Arg{}, Frames: []api.Frame{}, Objs: []api.Virt{}}, {Op: api.Call, Dst: "y", Frames: []api.Frame{{Vars: []api.Bind{}}}, Objs: []api.Virt{{Vals: []api.Arg{}}}}}, End: api.Term{Kind: api.Jump, To: []string{"b"}}},
		{Name: "b", Phis: []api.Phi{{Dst: "x", Ins: []api.In{}}}, Code: []api.Instr{}, End: api.Term{Kind: api.Ret, A: variable("y"), To: []string{}}},
	}}
	none := api.Func{Blocks: []api.Block{
		{Name: "a", Code: []api.Instr{{Op: api.Guard}, {Op: api.Call, Dst: "y", Frames: []api.Frame{{}}, Objs: []api.Virt{{}}}}, End: api.Term{Kind: api.Jump, To: []string{"b"}}},
		{Name: "b", Phis: []api.Phi{{Dst: "x"}}, End: api.Term{Kind: api.Ret, A: variable("y")}},
	}}
	for _, f := range []api.Func{empty, none} {
		hold(t, f, read("|x y"), true)
		f.Blocks[0].Code[1].Dst = "z"
		hold(t, f, read("|x z"), false)
	}
}

// What is answered hangs on what is handed in alone: asked again, among other calls, it is the same.
func TestNothingIsKept(t *testing.T) {
	f, other := parsed(t, full), parsed(t, strings.ReplaceAll(full, "z = ", "s = "))
	want := read("k o|k o v w x y|k o v w x y z|k o v w x y z")
	for range 100 {
		hold(t, f, want, true)
		hold(t, other, read("k o|k o v w x y|k o s v w x y|k o s v w x y"), false)
	}
}
