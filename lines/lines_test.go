package lines_test

import (
	"math"
	"slices"
	"strings"
	"testing"
	"unsafe"

	"lateen/api"
	"lateen/lines"
)

// line is a line of the number n, whose words stand in text between single blanks.
func line(n int, text string) lines.Line {
	return lines.Line{N: n, Words: strings.Split(text, " ")}
}

// same tells whether two lists of lines have the same numbers and words.
func same(a, b []lines.Line) bool {
	return slices.EqualFunc(a, b, func(x, y lines.Line) bool {
		return x.N == y.N && slices.Equal(x.Words, y.Words)
	})
}

// sameWords is same, but for the numbers.
func sameWords(a, b []lines.Line) bool {
	return slices.EqualFunc(a, b, func(x, y lines.Line) bool {
		return slices.Equal(x.Words, y.Words)
	})
}

// few answers the first lines of l, for a failure's message: some lists here have millions.
func few(l []lines.Line) []lines.Line {
	return l[:min(len(l), 5)]
}

// wants holds Split(s) against lines without an error.
func wants(t *testing.T, s string, want ...lines.Line) {
	t.Helper()
	if l, at, e := lines.Split(s); e != api.OK || at != 0 || !same(l, want) {
		t.Errorf("Split(%.40q) is %.40v (of %d) %d %d, not %.40v (of %d) 0 0", s, few(l), len(l), at, e, few(want), len(want))
	}
}

// refuses holds Split(s) against an error at the line n.
func refuses(t *testing.T, s string, n int, want api.Errno) {
	t.Helper()
	if l, at, e := lines.Split(s); e != want || at != n || len(l) != 0 {
		t.Errorf("Split(%.40q) is %.40v (of %d) %d %d, not nothing, %d, %d", s, few(l), len(l), at, e, n, want)
	}
}

func TestSplit(t *testing.T) {
	wants(t, "a", line(1, "a"))
	wants(t, "a\n", line(1, "a"))
	wants(t, "a\n\n\n", line(1, "a"))
	wants(t, "\n\na", line(3, "a"))
	wants(t, "a\nb", line(1, "a"), line(2, "b"))
	wants(t, "x = add 1 y\nret x\n", line(1, "x = add 1 y"), line(2, "ret x"))
	wants(t, "  x =\tadd \t 1  y\t\n\t\n ret\tx", line(1, "x = add 1 y"), line(3, "ret x"))
	wants(t, "!\"#$%&'()*+,-./:<=>?@[\\]^_`{|}~ 0f3ff0 #3", line(1, "!\"#$%&'()*+,-./:<=>?@[\\]^_`{|}~ 0f3ff0 #3"))
	wants(t, "a b a\na b a", line(1, "a b a"), line(2, "a b a"))
}

func TestSplitOfNoWords(t *testing.T) {
	for _, s := range []string{
		"", "\n", "\n\n\n", " ", "\t", " \t \t", " \n\t\n \t", ";", ";\n", " ;", "\t;a b", ";;", "; a\n; b\n", "\n ; a\n\t\n;", ";\x00\x01\r\x7f\x80\xff", "\n\t \n",
	} {
		wants(t, s)
	}
}

func TestSplitOfRemarks(t *testing.T) {
	wants(t, "a;b", line(1, "a"))
	wants(t, "a;b;c d", line(1, "a"))
	wants(t, "a ; b\nc", line(1, "a"), line(2, "c"))
	wants(t, ";a\nb;\n;c;d\n e ;;f", line(2, "b"), line(4, "e"))
	wants(t, "a;\"\nb\";c", line(1, "a"), line(2, "b\""))
	wants(t, "a;é\r\nb", line(1, "a"), line(2, "b"))
}

// Each byte in a word, on its own, ahead of a word, behind it, between words and in a remark.
func TestSplitOfEachByte(t *testing.T) {
	for b := range 256 {
		s := string([]byte{byte(b)})
		// amid holds text as the second of three lines.
		amid := func(text string, want ...lines.Line) {
			t.Helper()
			wants(t, "q\n"+text+"\nz", slices.Concat([]lines.Line{line(1, "q")}, want, []lines.Line{line(3, "z")})...)
		}
		switch {
		case b == '\n':
			wants(t, "a\nc", line(1, "a"), line(2, "c"))
			wants(t, "a;\nc", line(1, "a"), line(2, "c"))
			continue
		case b == ' ' || b == '\t':
			amid("a"+s+"c", line(2, "a c"))
			amid(s)
			amid(s+"a"+s, line(2, "a"))
			amid("a "+s+"\tc", line(2, "a c"))
		case b == ';':
			amid("a;c", line(2, "a"))
			amid(";")
		case 0x21 <= b && b <= 0x7e:
			amid("a"+s+"c", line(2, "a"+s+"c"))
			amid(s, line(2, s))
			amid(s+"a b"+s, line(2, s+"a b"+s))
			amid("a "+s+"\tc", line(2, "a "+s+" c"))
		default:
			for _, text := range []string{"a" + s + "c", s, s + "a", "a" + s, "a " + s + " c", "a " + s + "; c", "\t" + s + s} {
				refuses(t, "q\n"+text+"\nz", 2, api.ErrSyntax)
			}
		}
		amid("a;"+s+"c", line(2, "a"))
		amid(";" + s)
	}
}

func TestSplitTellsTheFirstWrongLine(t *testing.T) {
	refuses(t, "\x00", 1, api.ErrSyntax)
	refuses(t, "\n\x1f", 2, api.ErrSyntax)
	refuses(t, "a\r\n", 1, api.ErrSyntax)
	refuses(t, "a\n\r\nb", 2, api.ErrSyntax)
	refuses(t, ";\x00\n\n \t\n a b\x7f ;\nc\x80", 4, api.ErrSyntax)
	refuses(t, "a b c \xc3\xa9", 1, api.ErrSyntax)
	refuses(t, "a\nb\nc \xa0 d\n\xff\n", 3, api.ErrSyntax)
	refuses(t, strings.Repeat("\n", api.MaxText-1)+"\v", api.MaxText, api.ErrSyntax)
	refuses(t, strings.Repeat("a", api.MaxText-1)+"\f", 1, api.ErrSyntax)
}

func TestSplitAtTheLimit(t *testing.T) {
	full := func(s string) string { return strings.Repeat(s, api.MaxText/len(s)) }
	wants(t, full("a"), line(1, full("a")))
	wants(t, full(" "))
	wants(t, full("\n"))
	wants(t, full(";"))
	wants(t, full("\n")[1:]+"a", line(api.MaxText, "a"))
	if l, at, e := lines.Split(full("a ")); e != api.OK || at != 0 || len(l) != 1 || l[0].N != 1 || len(l[0].Words) != api.MaxText/2 {
		t.Error("many words", len(l), at, e)
	}
	if l, at, e := lines.Split(full("a\n")); e != api.OK || at != 0 || len(l) != api.MaxText/2 || !same(l[len(l)-1:], []lines.Line{line(api.MaxText/2, "a")}) {
		t.Error("many lines", len(l), at, e)
	}
	for _, s := range []string{"a", " ", "\n", ";", "\x00", "\x7f"} {
		refuses(t, full(s)+s, 0, api.ErrLimit)
		refuses(t, full(s)+full(s), 0, api.ErrLimit)
	}
	refuses(t, "\x01\n"+full("a")[1:], 0, api.ErrLimit)
}

// short answers all texts of up to five bytes of those that a line tells apart.
func short() []string {
	const bytes = "a!~ \t\n;\r\x7f"
	texts := []string{""}
	for at := 0; at < len(texts); at++ {
		if len(texts[at]) < 5 {
			for i := range len(bytes) {
				texts = append(texts, texts[at]+bytes[i:i+1])
			}
		}
	}
	return texts
}

// measure is Split of a text that isn't too long, by other means than the program's.
func measure(s string) ([]lines.Line, int, api.Errno) {
	var l []lines.Line
	for i, row := range strings.Split(s, "\n") {
		row, _, _ = strings.Cut(row, ";")
		words := strings.FieldsFunc(row, func(r rune) bool { return r == ' ' || r == '\t' })
		for _, w := range words {
			if strings.ContainsFunc(w, func(r rune) bool { return r < 0x21 || r > 0x7e }) {
				return nil, i + 1, api.ErrSyntax
			}
		}
		if len(words) > 0 {
			l = append(l, lines.Line{N: i + 1, Words: words})
		}
	}
	return l, 0, api.OK
}

func TestSplitOfShortTexts(t *testing.T) {
	for _, s := range short() {
		l, at, e := lines.Split(s)
		want, n, errno := measure(s)
		if e != errno || at != n || !same(l, want) {
			t.Errorf("Split(%q) is %v %d %d, not %v %d %d", s, l, at, e, want, n, errno)
		}
	}
}

func TestJoin(t *testing.T) {
	for _, c := range []struct {
		l    []lines.Line
		want string
	}{
		{nil, ""},
		{[]lines.Line{}, ""},
		{[]lines.Line{line(1, "a")}, "a\n"},
		{[]lines.Line{line(1, "x = add 1 y"), line(4, "ret x")}, "x = add 1 y\nret x\n"},
		{[]lines.Line{line(9, "b"), line(9, "a"), line(2, "b"), line(0, "c d"), line(-7, "e"), line(math.MaxInt, "f"), line(math.MinInt, "g")}, "b\na\nb\nc d\ne\nf\ng\n"},
		{[]lines.Line{{}}, "\n"},
		{[]lines.Line{{N: 3}, {Words: []string{}}, line(1, "a"), {}}, "\n\na\n\n"},
		{[]lines.Line{{Words: []string{""}}}, "\n"},
		{[]lines.Line{{Words: []string{"", ""}}, {Words: []string{"a", "", "b", ""}}, {Words: []string{"", "c"}}}, " \na  b \n c\n"},
		{[]lines.Line{{Words: []string{" ", "\t", "a b", "\n", ";", "a;b", "\x00", "\x7f", "é", "\xff", "\r\n"}}}, "  \t a b \n ; a;b \x00 \x7f é \xff \r\n\n"},
		{[]lines.Line{{Words: []string{strings.Repeat("a", api.MaxText), "b"}}}, strings.Repeat("a", api.MaxText) + " b\n"},
	} {
		if s := lines.Join(c.l); s != c.want {
			t.Errorf("Join(%.40v) is %.80q, not %.80q", c.l, s, c.want)
		}
	}
}

// What Split told is told again of its Join, each line one behind the other.
func TestSplitOfJoin(t *testing.T) {
	for _, s := range short() {
		l, _, _ := lines.Split(s)
		again, at, e := lines.Split(lines.Join(l))
		if e != api.OK || at != 0 || !sameWords(l, again) {
			t.Errorf("Split of Join of %v, of %q, is %v %d %d", l, s, again, at, e)
		}
		for i, line := range again {
			if line.N != i+1 {
				t.Errorf("line %d of Join of %v has the number %d", i+1, l, line.N)
			}
		}
	}
}

// Join lays a line feed behind the last line too: of a text of MaxText bytes without one it may make one byte more, which is beyond Split's limit. One byte less, and all holds.
func TestSplitOfJoinAtTheLimit(t *testing.T) {
	for _, s := range []string{strings.Repeat("a", api.MaxText-1), strings.Repeat("a", api.MaxText-1) + "\n", strings.Repeat("b ", api.MaxText/2), strings.Repeat("c\n", api.MaxText/2)} {
		l, _, _ := lines.Split(s)
		if again, at, e := lines.Split(lines.Join(l)); e != api.OK || at != 0 || !sameWords(l, again) {
			t.Errorf("Split of Join of Split of %.10q: %d %d", s, at, e)
		}
	}
	s := strings.Repeat("a", api.MaxText)
	l, _, _ := lines.Split(s)
	if lines.Join(l) != s+"\n" {
		t.Error("Join of one long word")
	}
	refuses(t, lines.Join(l), 0, api.ErrLimit)
}

// Remarks, blanks and empty lines more change numbers alone.
func TestSplitOfMoreThatIsNoWord(t *testing.T) {
	more := []struct{ old, new string }{
		{"\n", " ; a remark\x01\xff\n"}, {"\n", "\n\n"}, {"\n", "\n;\n \t\n"}, {"\n", "\t \n"}, {"\n", "\n \t"}, {" ", "  "}, {" ", "\t"}, {"\t", " \t "}, {";", " ;"}, {";", ";;"},
	}
	for _, s := range short() {
		l, _, e := lines.Split(s + "\n")
		if e != api.OK {
			continue
		}
		for _, m := range more {
			text := strings.ReplaceAll(s+"\n", m.old, m.new)
			if other, at, e := lines.Split(text); e != api.OK || at != 0 || !sameWords(l, other) {
				t.Errorf("Split(%q) has the words of %v, not %v %d %d", text, l, other, at, e)
			}
		}
	}
}

// inside tells whether a byte of w is one of s's own.
func inside(w, s string) bool {
	from, at := uintptr(unsafe.Pointer(unsafe.StringData(s))), uintptr(unsafe.Pointer(unsafe.StringData(w)))
	return from <= at && at < from+uintptr(len(s))
}

func TestWordsAreOnTheirOwn(t *testing.T) {
	text := strings.Repeat("alpha beta;c\nd e\n", 3)
	l, _, _ := lines.Split(text)
	for _, line := range l {
		for _, w := range line.Words {
			if inside(w, text) {
				t.Errorf("%q is a piece of the text", w)
			}
		}
	}
	word := strings.Repeat("w", 3)
	if s := lines.Join([]lines.Line{{Words: []string{word}}}); inside(word, s) || inside(s, word) {
		t.Error("Join hands out a piece of its argument")
	}
}

// No list that Split answers shares memory with another one, its spare room neither.
func TestListsAreOnTheirOwn(t *testing.T) {
	const text = "a b c\nd e f\ng\nh i j k l"
	l, _, _ := lines.Split(text)
	for i := range l {
		l[i].Words = append(l[i].Words, "more", "and", "more")
		l[i].Words[0] = "other"
	}
	for i, want := range []string{"other b c more and more", "other e f more and more", "other more and more", "other i j k l more and more"} {
		if got := strings.Join(l[i].Words, " "); got != want {
			t.Errorf("line %d is %q, not %q", i+1, got, want)
		}
	}
	wants(t, text, line(1, "a b c"), line(2, "d e f"), line(3, "g"), line(4, "h i j k l"))
}

func TestJoinLeavesItsArgument(t *testing.T) {
	words := []string{"a", "", "b", "spare", "room"}
	all := []lines.Line{{N: 5, Words: words[:3]}, {N: -1}, {N: 2, Words: []string{" "}}, line(9, "beyond")}
	if s := lines.Join(all[:3]); s != "a  b\n\n \n" {
		t.Errorf("%q", s)
	}
	if !slices.Equal(words, []string{"a", "", "b", "spare", "room"}) {
		t.Error("words changed:", words)
	}
	if !same(all, []lines.Line{{N: 5, Words: words[:3]}, {N: -1}, {N: 2, Words: []string{" "}}, line(9, "beyond")}) {
		t.Error("lines changed:", all)
	}
}

func TestExample(t *testing.T) {
	wants(t, "a  b;c\n\n d", line(1, "a b"), line(3, "d"))
}
