package syntax_test

import (
	"math"
	"regexp"
	"slices"
	"strconv"
	"strings"
	"testing"

	"lateen/api"
	"lateen/lines"
	"lateen/syntax"
)

// measure tells what Parse must answer of a text, by other means than the program's: each line is of the kind, a letter, whose pattern it matches, and a program is a text whose letters match one pattern.
type measure struct {
	patterns map[byte]*regexp.Regexp
	kinds    map[string]byte
	begins   map[string]bool
}

// Letters of the kinds of lines are those of their first words, but for: h, a function's head; P, a phi; i, an instruction; S, one that may have a state; a, a frame; o, an object; t, an end.
var (
	whole  = regexp.MustCompile(`^s?(cf*|g|e|hp*v*(bP*(i|Sa*o*)*t)+)*$`)
	endOf  = map[byte]string{'h': "bt", 'p': "bt", 'v': "bt", 'b': "t", 'P': "t", 'i': "t", 'S': "t", 'a': "t", 'o': "t"}
	places = strings.NewReplacer(
		"NAME", `(?:[A-Za-z_][A-Za-z0-9_]{0,15})`,
		"TYPE", `(?:!int|!float|[A-Za-z_][A-Za-z0-9_]{0,15})`,
		"ARG", `(?:[A-Za-z_][A-Za-z0-9_]{0,15}|!null|0|-?[1-9][0-9]*|0f[0-9a-f]{16})`,
		"OBJ", `(?:[A-Za-z_][A-Za-z0-9_]{0,15}|!null|0|-?[1-9][0-9]*|0f[0-9a-f]{16}|#(?:0|[1-9][0-9]{0,2}))`,
		"NUMBER", `(?:0|-?[1-9][0-9]*)`,
		"TO1024", `(?:[0-9]|[1-9][0-9]|[1-9][0-9][0-9]|10[01][0-9]|102[0-4])`,
		"TO8", `[0-8]`)
)

func newMeasure() *measure {
	m := &measure{patterns: map[byte]*regexp.Regexp{}, kinds: map[string]byte{}, begins: map[string]bool{}}
	for kind, p := range map[byte]string{
		's': "ssa", 'c': "class NAME", 'f': "field NAME TYPE", 'g': "global NAME TYPE", 'e': "extern NAME TO8",
		'h': "func NAME TYPE", 'p': "param NAME TYPE", 'v': "var NAME TYPE", 'b': "block NAME", 'P': "phi NAME(?: NAME ARG)+",
		'i': "NAME = (?:add|sub|mul|div|rem|and|or|xor|shl|shr|eq|ne|lt|le|fadd|fsub|fmul|fdiv|feq|flt|fle|same) ARG ARG|NAME = (?:itof|ftoi|mov) ARG|NAME = (?:new|ext) NAME(?: ARG){0,8}|NAME = load ARG NAME|NAME = gload NAME|store ARG NAME ARG|gstore NAME ARG|out ARG",
		'S': "guard|NAME = call NAME(?: ARG){0,8}",
		'a': "at NAME NAME TO1024(?: NAME OBJ)*", 'o': "obj NAME(?: OBJ){0,8}",
		't': "jump NAME|branch ARG NAME NAME|ret ARG|trap NUMBER",
	} {
		m.patterns[kind] = regexp.MustCompile("^(?:" + places.Replace(p) + ")$")
	}
	return m
}

// marked has a ! ahead of words that look like a name or a number, and are none.
func marked(w string) string {
	switch w {
	case "null", "int", "float":
		return "!" + w
	}
	if _, err := strconv.ParseInt(w, 10, 64); err != nil && strings.Trim(w, "-0123456789") == "" {
		return "!" + w
	}
	if len(w) == 18 && strings.HasPrefix(w, "0f") {
		bits, err := strconv.ParseUint(w[2:], 16, 64)
		if err == nil && math.IsNaN(math.Float64frombits(bits)) && bits != 0x7ff8000000000000 {
			return "!" + w
		}
	}
	return w
}

// kind answers the letter of a line; 0, if it is none.
func (m *measure) kind(t *testing.T, l lines.Line) byte {
	text := lines.Join([]lines.Line{l})
	if k, ok := m.kinds[text]; ok {
		return k
	}
	var w []string
	for _, x := range l.Words {
		w = append(w, marked(x))
	}
	var kind byte
	for k, p := range m.patterns {
		if p.MatchString(strings.Join(w, " ")) {
			if kind != 0 {
				t.Fatalf("%q is of two kinds", text)
			}
			kind = k
		}
	}
	m.kinds[text] = kind
	return kind
}

// begin tells whether some program's letters begin so.
func (m *measure) begin(letters string) bool {
	ok, known := m.begins[letters]
	if !known {
		ok = whole.MatchString(letters + endOf[letters[len(letters)-1]])
		m.begins[letters] = ok
	}
	return ok
}

// over tells whether what the last of the letters, of the line l, stands for is more than its limit.
func over(letters string, l lines.Line) bool {
	of := strings.Count
	inFunc := letters[strings.LastIndex(letters, "h")+1:]
	switch letters[len(letters)-1] {
	case 'c':
		return of(letters, "c") > 8
	case 'f':
		return of(letters[strings.LastIndex(letters, "c"):], "f") > 8
	case 'g':
		return of(letters, "g") > 8
	case 'e':
		return of(letters, "e") > 8
	case 'h':
		return of(letters, "h") > 8
	case 'p':
		return of(inFunc, "p") > 6
	case 'v':
		return of(inFunc, "v") > 1024
	case 'b':
		return of(inFunc, "b") > 256
	case 'P':
		return of(inFunc, "P")+of(inFunc, "i")+of(inFunc, "S") > 1024 || len(l.Words) > 2+2*256
	case 'i', 'S':
		return of(inFunc, "P")+of(inFunc, "i")+of(inFunc, "S") > 1024
	case 'a':
		return of(letters[strings.LastIndex(letters, "S"):], "a") > 16 || len(l.Words) > 4+2*16
	case 'o':
		return of(letters[strings.LastIndex(letters, "S"):], "o") > 99
	}
	return false
}

// answer is the line and the error of a text.
func (m *measure) answer(t *testing.T, text string) (int, api.Errno) {
	l, at, e := lines.Split(text)
	if e != api.OK {
		return at, e
	}
	letters, short := "", ""
	for _, line := range l {
		kind := m.kind(t, line)
		if kind == 0 {
			return line.N, api.ErrSyntax
		}
		letters += string(kind)
		if short += string(kind); !m.begin(short) {
			return line.N, api.ErrSyntax
		}
		if over(letters, line) {
			return line.N, api.ErrLimit
		}
		short = shorter(short)
	}
	if !whole.MatchString(short) {
		return 0, api.ErrSyntax
	}
	return 0, api.OK
}

// shorter answers letters that may be followed by the same ones: what stands ahead of a head, of a block's name, or of two like lines doesn't matter.
func shorter(letters string) string {
	last := letters[len(letters)-1:]
	switch {
	case strings.Contains("cgeh", last):
		return last
	case last == "b":
		return "hb"
	}
	if cut, ok := strings.CutSuffix(letters, last+last+last); ok {
		return cut + last + last
	}
	return letters
}

// hold holds what Parse answers of a text against the measure, and the program against the text.
func (m *measure) hold(t *testing.T, text string) {
	t.Helper()
	wantAt, want := m.answer(t, text)
	p, at, e := syntax.Parse(text)
	if at != wantAt || e != want {
		t.Fatalf("%q\nis %d %d, not %d %d", text, wantAt, want, at, e)
	}
	if e != api.OK {
		if !zero(p) {
			t.Fatalf("%q\nis %d, and beside it %v", text, e, p)
		}
		return
	}
	if written := write(p); written != m.inOrder(t, text) {
		t.Fatalf("%q\nis read as\n%q", text, written)
	}
}

// inOrder answers the words of a program's text, with its classes ahead, then its globals, its externs and its functions.
func (m *measure) inOrder(t *testing.T, text string) string {
	l, _, _ := lines.Split(text)
	var parts [5][]lines.Line
	part := 0
	for _, line := range l {
		if at := strings.IndexByte("scgeh", m.kind(t, line)); at >= 0 {
			part = at
		}
		parts[part] = append(parts[part], line)
	}
	return lines.Join(slices.Concat(parts[:]...))
}

func zero(p api.Program) bool {
	return !p.SSA && p.Classes == nil && p.Globals == nil && p.Externs == nil && p.Funcs == nil
}
