package machine_test

import (
	"fmt"
	"strings"
	"testing"

	"lateen/api"
	"lateen/flo"
	"lateen/machine"
	"lateen/num"
	"lateen/syntax"
	"lateen/word"
)

// reckoned runs the instruction op, of the types from and to, with a and b: once as parameters, once written out, and once of each; it answers the states in words, which must all be one.
func reckoned(t *testing.T, op int, from, to string, a, b int64) string {
	t.Helper()
	form, _ := syntax.Of(op)
	write := func(n int64) string {
		if from == "float" {
			return word.Put(api.Arg{Kind: api.KFloat, N: n})
		}
		return word.Put(api.Arg{Kind: api.KInt, N: n})
	}
	var all []string
	for _, args := range [][2]string{{"a", "b"}, {write(a), write(b)}, {"a", write(b)}, {write(a), "b"}} {
		text := fmt.Sprintf("func f %s/param a %s/param b %s/var x %s/block s/x = %s %s/ret x", to, from, from, to, form.Word, strings.Join(args[:form.Least], " "))
		s := ran(t, text, a, b)
		// The frame of a run that is trapped tells the parameters, which are none of its answer.
		s.Frames = nil
		all = append(all, told(s))
	}
	for _, text := range all {
		if text != all[0] {
			t.Fatalf("%s %d %d: %s", form.Word, a, b, all)
		}
	}
	return all[0]
}

// What instructions of whole numbers answer, worked out by hand.
func TestWholeNumbers(t *testing.T) {
	for _, c := range []struct {
		op         int
		a, b, want int64
	}{
		{api.Add, 2, 3, 5}, {api.Add, 9223372036854775807, 1, -9223372036854775808}, {api.Add, -9223372036854775808, -9223372036854775808, 0},
		{api.Sub, 2, 3, -1}, {api.Sub, -9223372036854775808, 1, 9223372036854775807}, {api.Sub, 0, -9223372036854775808, -9223372036854775808},
		{api.Mul, -4, 3, -12}, {api.Mul, 4294967296, 4294967296, 0}, {api.Mul, 9223372036854775807, 2, -2}, {api.Mul, -9223372036854775808, -1, -9223372036854775808},
		{api.Div, 7, 2, 3}, {api.Div, -7, 2, -3}, {api.Div, 7, -2, -3}, {api.Div, 0, 5, 0}, {api.Div, -9223372036854775808, -1, -9223372036854775808},
		{api.Rem, 7, 2, 1}, {api.Rem, -7, 2, -1}, {api.Rem, 7, -2, 1}, {api.Rem, 0, 5, 0}, {api.Rem, -9223372036854775808, -1, 0},
		{api.And, 12, 10, 8}, {api.And, -1, -9223372036854775808, -9223372036854775808},
		{api.Or, 12, 10, 14}, {api.Or, 0, -1, -1},
		{api.Xor, 12, 10, 6}, {api.Xor, -1, 9223372036854775807, -9223372036854775808},
		{api.Shl, 1, 3, 8}, {api.Shl, 1, 65, 2}, {api.Shl, 1, -1, -9223372036854775808}, {api.Shl, 3, 63, -9223372036854775808},
		{api.Shr, 8, 3, 1}, {api.Shr, -8, 1, -4}, {api.Shr, -1, 63, -1}, {api.Shr, -9223372036854775808, 127, -1}, {api.Shr, 2, 64, 2},
		{api.Eq, 5, 5, 1}, {api.Eq, 5, -5, 0}, {api.Ne, 5, 5, 0}, {api.Ne, 5, -5, 1},
		{api.Lt, 1, 2, 1}, {api.Lt, 2, 2, 0}, {api.Lt, 2, 1, 0}, {api.Lt, -9223372036854775808, 9223372036854775807, 1},
		{api.Le, 1, 2, 1}, {api.Le, 2, 2, 1}, {api.Le, 2, 1, 0}, {api.Le, 9223372036854775807, -9223372036854775808, 0},
	} {
		if got := reckoned(t, c.op, "int", "int", c.a, c.b); got != "ended "+number(c.want)+" steps 2" {
			t.Error(c, got)
		}
	}
}

// At all edges, whole numbers are what layer 1 answers; where that is nothing, the run is trapped.
func TestWholeNumbersAtEdges(t *testing.T) {
	for op := api.Add; op <= api.Le; op++ {
		for _, a := range wholes {
			for _, b := range wholes {
				want := "trapped 2 steps 1"
				if n, ok := num.Do(op, a, b); ok {
					want = "ended " + number(n) + " steps 2"
				} else if b != 0 {
					t.Error(op, a, b)
				}
				if got := reckoned(t, op, "int", "int", a, b); got != want {
					t.Error(op, a, b, got)
				}
			}
		}
	}
}

// A run that divides by 0 is trapped where it does so: what stands behind isn't done.
func TestDivisionByZero(t *testing.T) {
	for _, word := range []string{"div", "rem"} {
		for _, args := range []string{"1 0", "0 0", "k 0", "1 z", "-9223372036854775808 z", "z z"} {
			text := "global g int/func f int/param k int/param z int/var x int/block a/x = mov 9/out 1/x = " + word + " " + args + "/out 2/gstore g 1/ret x"
			p := parsed(t, text)
			s := machine.Run(p, start(t, p, 4), enough, nil, nil)
			const want = "trapped 2 at f a 2 k=4 x=9 z=0 globals 0 (1) marks 0 steps 3"
			hold(t, text, s, want)
			hold(t, text, machine.Run(p, s, enough, nil, nil), want)
		}
	}
}

// What instructions of floats answer, worked out by hand.
func TestFloats(t *testing.T) {
	minus := func(n int64) int64 { return n | nought }
	for _, c := range []struct {
		op         int
		a, b, want int64
	}{
		{api.Fadd, one, one, two}, {api.Fadd, one, minus(one), 0}, {api.Fadd, nought, nought, nought}, {api.Fadd, 0, nought, 0}, {api.Fadd, infinite, minus(infinite), nan}, {api.Fadd, nan, one, nan},
		{api.Fsub, two, one, one}, {api.Fsub, one, one, 0}, {api.Fsub, nought, 0, nought}, {api.Fsub, 0, 0, 0}, {api.Fsub, infinite, infinite, nan},
		{api.Fmul, two, one, two}, {api.Fmul, nought, two, nought}, {api.Fmul, nought, minus(two), 0}, {api.Fmul, 0, infinite, nan}, {api.Fmul, infinite - 1, two, infinite},
		{api.Fdiv, two, two, one}, {api.Fdiv, one, 0, infinite}, {api.Fdiv, one, nought, minus(infinite)}, {api.Fdiv, 0, 0, nan}, {api.Fdiv, infinite, infinite, nan}, {api.Fdiv, nought, one, nought}, {api.Fdiv, 1, two, 0},
		{api.Feq, one, one, 1}, {api.Feq, one, two, 0}, {api.Feq, 0, nought, 1}, {api.Feq, nan, nan, 0}, {api.Feq, infinite, infinite, 1},
		{api.Flt, one, two, 1}, {api.Flt, two, one, 0}, {api.Flt, one, one, 0}, {api.Flt, nought, 0, 0}, {api.Flt, nan, one, 0}, {api.Flt, one, nan, 0}, {api.Flt, minus(one), minus(two), 0}, {api.Flt, minus(infinite), infinite, 1},
		{api.Fle, one, two, 1}, {api.Fle, two, one, 0}, {api.Fle, one, one, 1}, {api.Fle, 0, nought, 1}, {api.Fle, nan, nan, 0},
	} {
		to := "float"
		if c.op >= api.Feq {
			to = "int"
		}
		if got := reckoned(t, c.op, "float", to, c.a, c.b); got != "ended "+value(api.Val{Type: to, N: c.want})+" steps 2" {
			t.Error(c, got)
		}
	}
}

// At all edges, floats are what layer 2 answers; as parameters, NaN of other bits too.
func TestFloatsAtEdges(t *testing.T) {
	for op := api.Fadd; op <= api.Fle; op++ {
		to := "float"
		if op >= api.Feq {
			to = "int"
		}
		for _, a := range append(plains, nan) {
			for _, b := range append(plains, nan) {
				n, _ := flo.Do(op, a, b)
				if got := reckoned(t, op, "float", to, a, b); got != "ended "+value(api.Val{Type: to, N: n})+" steps 2" {
					t.Error(op, a, b, got)
				}
			}
		}
		form, _ := syntax.Of(op)
		p := parsed(t, "func f "+to+"/param a float/param b float/var x "+to+"/block s/x = "+form.Word+" a b/ret x")
		for _, a := range nans {
			for _, b := range append(nans, plains...) {
				n, _ := flo.Do(op, a, b)
				want := "ended " + value(api.Val{Type: to, N: n}) + " steps 2"
				hold(t, form.Word, machine.Run(p, start(t, p, a, b), enough, nil, nil), want)
				n, _ = flo.Do(op, b, a)
				want = "ended " + value(api.Val{Type: to, N: n}) + " steps 2"
				hold(t, form.Word, machine.Run(p, start(t, p, b, a), enough, nil, nil), want)
			}
		}
	}
}

// Whole numbers into floats, and back.
func TestItofAndFtoi(t *testing.T) {
	for _, c := range []struct {
		op      int
		a, want int64
	}{
		{api.Itof, 0, 0}, {api.Itof, 1, one}, {api.Itof, -1, one | nought}, {api.Itof, 1<<63 - 1, 0x43e0000000000000}, {api.Itof, -1 << 63, nought | 0x43e0000000000000}, {api.Itof, 1<<53 + 1, 0x4340000000000000},
		{api.Ftoi, 0, 0}, {api.Ftoi, nought, 0}, {api.Ftoi, one, 1}, {api.Ftoi, 0x4008000000000000, 3}, {api.Ftoi, nought | 0x400c000000000000, -3}, {api.Ftoi, nan, 0}, {api.Ftoi, infinite, 1<<63 - 1}, {api.Ftoi, nought | infinite, -1 << 63}, {api.Ftoi, 0x43e0000000000000, 1<<63 - 1},
	} {
		from, to := "int", "float"
		if c.op == api.Ftoi {
			from, to = to, from
		}
		if got := reckoned(t, c.op, from, to, c.a, 0); got != "ended "+value(api.Val{Type: to, N: c.want})+" steps 2" {
			t.Error(c, got)
		}
	}
	for _, n := range wholes {
		if got := reckoned(t, api.Itof, "int", "float", n, 0); got != "ended "+value(api.Val{Type: "float", N: flo.OfInt(n)})+" steps 2" {
			t.Error(n, got)
		}
	}
	for _, n := range append(plains, nan) {
		if got := reckoned(t, api.Ftoi, "float", "int", n, 0); got != "ended "+number(flo.ToInt(n))+" steps 2" {
			t.Error(n, got)
		}
	}
}

// Mov, and all that hands values on as they are: fields, globals, parameters, results.
func TestValuesAreHandedOn(t *testing.T) {
	const head = "class P/field a int/field u float/field n P/global g int/global h float/global i P/func f int/param k int/param v float/var x int/var w float/var p P/var q P/block s/"
	for code, want := range map[string]string{
		"x = mov k/out x":                                           "(7)",
		"x = mov -9223372036854775808/out x":                        "(-9223372036854775808)",
		"w = mov v/out w":                                           "(f7ff8000000000000)",
		"w = mov 0f8000000000000000/out w":                          "(f8000000000000000)",
		"x = mov k/k = mov 8/out x/out k":                           "(7) (8)",
		"k = mov k/out k":                                           "(7)",
		"p = new P 1 v null/x = load p a/w = load p u/out w":        "(f7ff8000000000000)",
		"p = new P/store p u 0f8000000000000000/w = load p u/out w": "(f8000000000000000)",
		"gstore h 0f8000000000000000/w = gload h/out w":             "(f8000000000000000)",
		"gstore g k/x = gload g/out x":                              "(7)",
		"w = fadd v v/out w":                                        "(f7ff8000000000000)",
		"out -1":                                                    "(-1)",
		"out 0f8000000000000000":                                    "(f8000000000000000)",
		"out 9221120237041090561":                                   "(9221120237041090561)",
	} {
		s := ran(t, head+code+"/ret 0", 7, nan+1)
		var seen []string
		for _, e := range s.Trace {
			seen = append(seen, event(e))
		}
		if got := strings.Join(seen, " "); got != want || s.Status != api.Ended {
			t.Errorf("%s: %s", code, got)
		}
	}
}
