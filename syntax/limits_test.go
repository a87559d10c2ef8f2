package syntax_test

import (
	"strings"
	"testing"

	"lateen/api"
	"lateen/syntax"
)

// limit is a limit of lines: so many of them may stand behind what is ahead.
type limit struct {
	ahead, line string
	most        int
}

const (
	inBlock = "func f int\nblock b\n"
	half    = api.MaxLong / 2
)

func limits() []limit {
	fields := "class C\n" + strings.Repeat("field a int\n", 8)
	full := "func f int\n" + strings.Repeat("param p int\n", 6) + strings.Repeat("var v int\n", 1024) + "block b\n" + strings.Repeat("out 1\n", 1024) + "ret 1\n"
	frames := "guard\n" + strings.Repeat("at f b 1\n", 16)
	objs := frames + strings.Repeat("obj P\n", 99)
	return []limit{
		{"", "class C\n", 8},
		{"ssa\n" + fields + "global g int\n", "class C\n", 7},
		{"class C\n", "field a int\n", 8},
		{fields + fields, "class C\nfield a int\n", 6},
		{fields + "class D\n", "field a int\n", 8},
		{"", "global g int\n", 8},
		{"global g int\n" + fields + full, "global g int\n", 7},
		{"", "extern e 8\n", 8},
		{"extern g 0\n" + full, "extern g 0\n", 7},
		{"", "func f int\nblock b\nret 1\n", 8},
		{full, full, 7},
		{"func f int\n", "param p int\n", 6},
		{full + "func f int\n", "param p int\n", 6},
		{"func f int\n", "var v int\n", 1024},
		{"func f int\n" + strings.Repeat("param p int\n", 6), "var v int\n", 1024},
		{full + "func f int\nparam p int\n", "var v int\n", 1024},
		{"func f int\n", "block b\nret 1\n", 256},
		{full + "func f int\nvar v int\n", "block b\nphi x b 1\nguard\njump b\n", 256},
		{inBlock, "out 1\n", 1024},
		{full + inBlock, "x = mov 1\n", 1024},
		{inBlock, "phi x b 1\n", 1024},
		{inBlock + strings.Repeat("phi x b 1\n", half), "guard\n", half},
		{inBlock + strings.Repeat("phi x b 1\n", half) + "ret 1\nblock c\n", "phi x b 1\n", half},
		{inBlock + strings.Repeat("out 1\n", half) + "ret 1\nblock c\n", "phi x b 1\n", half},
		{inBlock + strings.Repeat("out 1\n", half) + "ret 1\nblock c\n", "x = call f 1\n", half},
		{inBlock + strings.Repeat(frames, 100), "out 1\n", 924},
		{inBlock + "guard\n", "at f b 1\n", 16},
		{inBlock + "x = call f\n", "at f b 1 x 1\n", 16},
		{inBlock + frames + "out 1\nguard\n", "at f b 1\n", 16},
		{inBlock + frames + frames + "x = call f\n", "at f b 1\n", 16},
		{inBlock + "guard\n", "obj P\n", 99},
		{inBlock + "x = call f\nat f b 1\n", "obj P 1\n", 99},
		{inBlock + objs + "guard\n", "obj P 1 #0\n", 99},
		{inBlock + objs + "out 1\n" + frames, "obj P\n", 99},
	}
}

// ends is what makes texts whole that end so.
func ends(text string) string {
	for _, end := range []string{"", "ret 1\n", "block b\nret 1\n"} {
		if _, _, e := syntax.Parse(text + end); e == api.OK {
			return text + end
		}
	}
	return text
}

func TestLimits(t *testing.T) {
	t.Parallel()
	m := newMeasure()
	for _, c := range limits() {
		upTo := c.ahead + strings.Repeat(c.line, c.most)
		if _, at, e := syntax.Parse(ends(upTo)); at != 0 || e != api.OK {
			t.Errorf("%.40q, %d times %q is %d %d", c.ahead, c.most, c.line, at, e)
		}
		m.hold(t, ends(upTo))
		want := strings.Count(upTo, "\n") + 1
		// The first line alone is one too many; what stands behind isn't looked at.
		first, _, _ := strings.Cut(c.line, "\n")
		for _, behind := range []string{"", "\n", " \n" + c.line, "\nret 1\n", "\nno\n"} {
			p, at, e := syntax.Parse(upTo + first + behind)
			if at != want || e != api.ErrLimit || !zero(p) {
				t.Errorf("%.40q, %d times %q, and %q is %d %d", c.ahead, c.most, c.line, first+behind, at, e)
			}
		}
		m.hold(t, upTo+c.line)
		// A line that breaks a rule, too: ErrSyntax.
		both := 0
		for _, broken := range []string{first + " =", first + " a.b\n" + c.line, strings.Fields(first)[0] + " #\n", first + " x 1 x #0 x ;\n", "x = x\n"} {
			if _, wants := m.answer(t, upTo+broken); wants != api.ErrSyntax {
				continue
			}
			both++
			if p, at, e := syntax.Parse(upTo + broken); at != want || e != api.ErrSyntax || !zero(p) {
				t.Errorf("%.40q, %d times %q, and %q is %d %d", c.ahead, c.most, c.line, broken, at, e)
			}
		}
		if both < 3 {
			t.Errorf("%q: only %d lines break a rule, too", c.line, both)
		}
	}
}

// A line ahead of the one that is beyond its limit is told, if it breaks a rule.
func TestTheFirstLineIsTold(t *testing.T) {
	for s, want := range map[string]int{
		"class C\nfield\n" + strings.Repeat("class C\n", 9):                                   2,
		strings.Repeat("global g int\n", 8) + "ssa\nglobal g int\n":                           9,
		inBlock + "guard\n" + strings.Repeat("at f b 1\n", 15) + "at f b\nat f b 1\n":         19,
		inBlock + "out 1\n" + strings.Repeat("at f b 1\n", 17):                                4,
		inBlock + "guard\nobj P\n" + strings.Repeat("at f b 1\n", 17):                         5,
		inBlock + strings.Repeat("out 1\n", 1024) + "phi x b 1\n":                             1027,
		inBlock + strings.Repeat("out 1\n", 1024) + "x = mov #0\n":                            1027,
		inBlock + strings.Repeat("out 1\n", 1024) + "ret 1\nout 1\n":                          1028,
		"func f int\n" + strings.Repeat("block b\nret 1\n", 256) + "block int\n":              514,
		"func f int\n" + strings.Repeat("param p int\n", 6) + "var v int\nparam p int\n":      9,
		"func f int\n" + strings.Repeat("var v int\n", 1024) + "var v int int\n":              1026,
		strings.Repeat("class C\n", 8) + "field a int\nfield\nclass C\n":                      10,
		strings.Repeat("func f int\nblock b\nret 1\n", 7) + inBlock + "func f int\nblock b\n": 24,
	} {
		if p, at, e := syntax.Parse(s); at != want || e != api.ErrSyntax || !zero(p) {
			t.Errorf("%.60q is %d, not %d %d", s, want, at, e)
		}
	}
}

// The limits of what stands in one line.
func TestLimitsOfALine(t *testing.T) {
	m := newMeasure()
	for _, c := range []struct {
		ahead, pair string
		most        int
		e           api.Errno
	}{
		{"phi x", " b 1", 256, api.ErrLimit},
		{"guard\nat f b 1024", " x #999", 16, api.ErrLimit},
		{"x = call f\nat f b 0\nat f b 0 x 1\nat f b 0", " x null", 16, api.ErrLimit},
		// How many arguments there may be is of the form, and no limit.
		{"guard\nobj P", " #1", 8, api.ErrSyntax},
		{"x = new P", " null", 8, api.ErrSyntax},
		{"x = call f", " 1", 8, api.ErrSyntax},
		{"x = ext e", " y", 8, api.ErrSyntax},
	} {
		upTo := inBlock + c.ahead + strings.Repeat(c.pair, c.most)
		want := strings.Count(upTo, "\n") + 1
		if _, at, e := syntax.Parse(upTo + "\nret 1"); at != 0 || e != api.OK {
			t.Errorf("%q is %d %d", upTo, at, e)
		}
		for _, n := range []int{1, 2, 40, 300} {
			if p, at, e := syntax.Parse(upTo + strings.Repeat(c.pair, n) + "\nret 1"); at != want || e != c.e || !zero(p) {
				t.Errorf("%q and %d more is %d %d", upTo, n, at, e)
			}
			if p, at, e := syntax.Parse(upTo + strings.Repeat(c.pair, n) + " ="); at != want || e != api.ErrSyntax || !zero(p) {
				t.Errorf("%q, %d more and = is %d %d", upTo, n, at, e)
			}
		}
		m.hold(t, upTo)
		m.hold(t, upTo+c.pair)
	}
	// Two limits at once, and a frame that is one too many with a pair that is none.
	frames := inBlock + "guard\n" + strings.Repeat("at f b 1\n", 16)
	pairs := strings.Repeat(" x 1", 17)
	if _, at, e := syntax.Parse(frames + "at f b 1" + pairs); at != 20 || e != api.ErrLimit {
		t.Error(at, e)
	}
	if _, at, e := syntax.Parse(frames + "at f b 1" + pairs + " x"); at != 20 || e != api.ErrSyntax {
		t.Error(at, e)
	}
	if _, at, e := syntax.Parse(frames + "at f b 1025" + pairs); at != 20 || e != api.ErrSyntax {
		t.Error(at, e)
	}
}

// As much as a program may be is read.
func TestGreatProgram(t *testing.T) {
	text := "ssa\n" + strings.Repeat("class Abcdefghijklmnop\n"+strings.Repeat("field abcdefghijklmnop float\n", 8), 8) + strings.Repeat("global g P\n", 8) + strings.Repeat("extern e 8\n", 8)
	f := "func f int\n" + strings.Repeat("param p int\n", 6) + strings.Repeat("var v int\n", 1024)
	for range 256 {
		f += "block b\nphi x" + strings.Repeat(" b 1", 256) + "\nguard\nat f b 1 x #0\nobj P #0\nx = call f 1 2 3 4 5 6 7 8\nout x\nret x\n"
	}
	text += strings.Repeat(f, 8)
	p, at, e := syntax.Parse(text)
	if at != 0 || e != api.OK || len(p.Funcs) != 8 || len(p.Funcs[7].Blocks) != 256 || len(p.Funcs[7].Blocks[255].Phis[0].Ins) != 256 {
		t.Fatal(at, e)
	}
	if write(p) != text {
		t.Error("it is read as another one")
	}
}
