package syntax_test

import (
	"math"
	"strings"
	"testing"

	"lateen/api"
	"lateen/syntax"
)

// forms are all instructions' forms, by their numbers, as the chapter lists them.
func forms() map[int]syntax.Form {
	m := map[int]syntax.Form{}
	for at, w := range strings.Fields("add sub mul div rem and or xor shl shr eq ne lt le fadd fsub fmul fdiv feq flt fle") {
		m[1+at] = syntax.Form{Word: w, Dst: true, Least: 2, Most: 2}
	}
	m[22] = syntax.Form{Word: "itof", Dst: true, Least: 1, Most: 1}
	m[23] = syntax.Form{Word: "ftoi", Dst: true, Least: 1, Most: 1}
	m[24] = syntax.Form{Word: "mov", Dst: true, Least: 1, Most: 1}
	m[25] = syntax.Form{Word: "new", Dst: true, Named: true, Most: 8}
	m[26] = syntax.Form{Word: "load", Dst: true, Named: true, Least: 1, Most: 1}
	m[27] = syntax.Form{Word: "store", Named: true, Least: 2, Most: 2}
	m[28] = syntax.Form{Word: "same", Dst: true, Least: 2, Most: 2}
	m[29] = syntax.Form{Word: "gload", Dst: true, Named: true}
	m[30] = syntax.Form{Word: "gstore", Named: true, Least: 1, Most: 1}
	m[31] = syntax.Form{Word: "call", Dst: true, Named: true, Most: 8}
	m[32] = syntax.Form{Word: "ext", Dst: true, Named: true, Most: 8}
	m[33] = syntax.Form{Word: "out", Least: 1, Most: 1}
	m[34] = syntax.Form{Word: "guard"}
	return m
}

func TestOf(t *testing.T) {
	all := forms()
	if len(all) != api.Guard {
		t.Fatal(len(all))
	}
	for op, want := range all {
		if f, ok := syntax.Of(op); f != want || !ok {
			t.Errorf("Of(%d) is %v, not %v %v", op, want, f, ok)
		}
	}
	// The numbers are those of api's constants.
	for op, w := range map[int]string{api.Le: "le", api.Fadd: "fadd", api.Fle: "fle", api.Mov: "mov", api.New: "new", api.Load: "load", api.Store: "store", api.Same: "same", api.Gload: "gload", api.Call: "call", api.Ext: "ext", api.Guard: "guard"} {
		if f, _ := syntax.Of(op); f.Word != w {
			t.Errorf("Of(%d) is %v", op, f)
		}
	}
}

func TestOfOfNoInstruction(t *testing.T) {
	for _, op := range []int{0, 35, 36, -1, -2, 100, 255, 256, 257, 1 << 16, 1<<16 + 1, 1 << 32, 1<<32 + 1, math.MinInt, math.MinInt + 1, math.MaxInt} {
		if f, ok := syntax.Of(op); f != (syntax.Form{}) || ok {
			t.Errorf("Of(%d) is %v %v", op, f, ok)
		}
	}
}

func TestOp(t *testing.T) {
	for want, f := range forms() {
		if op, ok := syntax.Op(f.Word); op != want || !ok {
			t.Errorf("Op(%q) is %d, not %d %v", f.Word, want, op, ok)
		}
	}
}

func TestOpOfNoWord(t *testing.T) {
	l := strings.Fields("ssa class field global extern func param var block phi at obj jump branch ret trap = null int float x neg not nop ge gt fne fge sar free gloads gstor outs guards 1 0 34 #1 new1 _add ADD Add aDd")
	l = append(l, "", " ", "\x00", "\n", strings.Repeat("add", 1<<16))
	for _, f := range forms() {
		w := f.Word
		l = append(l, w+" ", " "+w, w+"\n", w+"\x00", w+w, w[:len(w)-1]+"\xff", strings.ToUpper(w), strings.ToUpper(w[:1])+w[1:], "z"+w)
	}
	for _, w := range l {
		if op, ok := syntax.Op(w); op != 0 || ok {
			t.Errorf("Op(%.40q) is %d %v", w, op, ok)
		}
	}
}
