package word_test

import (
	"math"
	"strconv"
	"strings"
	"testing"
	"unsafe"

	"lateen/api"
	"lateen/word"
)

const (
	nan      = 0x7ff8000000000000
	infinite = 0x7ff0000000000000
	one      = 0x3ff0000000000000
	lowest   = math.MinInt64
	highest  = math.MaxInt64
)

const (
	letters = "abcdefghijklmnopqrstuvwxyzABCDEFGHIJKLMNOPQRSTUVWXYZ_"
	numeric = "0123456789"
)

// names go from the shortest one to the longest one; some are nearly a word that is none, or another kind's.
func names() []string {
	l := []string{
		"x1", "Z_9", "_", "__", "_0", "_9z", "a0f", "f0", "camelCase", "snake_case",
		strings.Repeat("a", api.MaxName-1), strings.Repeat("z", api.MaxName), strings.Repeat("_", api.MaxName), "a" + strings.Repeat("9", api.MaxName-1), "abcdefghijklmnop",
		"Null", "NULL", "nul", "nulls", "null_", "null0", "_null", "nnull", "n", "nu", "N",
		"Int", "INT", "in", "ints", "int64", "_int", "i", "Float", "FLOAT", "floa", "floats", "float64", "_float", "f",
		"nan", "NaN", "inf", "Inf", "true", "func", "ret", "add", "obj", "at",
	}
	for i := range len(letters) {
		l = append(l, letters[i:i+1], "q"+letters[i:i+1], letters[i:i+1]+"1")
	}
	for i := range len(numeric) {
		l = append(l, "_"+numeric[i:i+1], "v"+numeric[i:i+1]+"w")
	}
	return l
}

// noNames are words of other kinds, and what is none's word.
func noNames() []string {
	l := []string{
		"", "null", "int", "float", "1x", "9", "0", "0a", "-a", "-5", "#3", "#a", "a#", "a.b", "a-b", "a b", " a", "a ", "a\n", "\na", "a\t", "a\r", "a\x00", "\x00", "\x00a",
		"é", "aé", "ä", "π", "aπ", "Ⅷ", "a٣", "٣", "a\xff", "\xff", "ａ", "aａ", "ı", "ſ", "\u212a",
		strings.Repeat("a", api.MaxName+1), strings.Repeat("_", api.MaxName+1), "abcdefghijklmnopq", strings.Repeat("a", 1<<20), strings.Repeat("1", api.MaxName), strings.Repeat("a", api.MaxName-1) + ".",
		"'a'", "\"a\"", "a=", "a,", "a;", "a:", "(a)", "a/b", "a`", "@a", "a[", "{a", "$a",
	}
	// Each byte that may not stand in a name, ahead, within and at the end.
	for b := range 256 {
		s := string([]byte{byte(b)})
		if !strings.Contains(letters+numeric, s) {
			l = append(l, s, s+"a", "a"+s, "a"+s+"b", "abc"+s+"_9")
		}
	}
	for i := range len(numeric) {
		l = append(l, numeric[i:i+1]+"x", numeric[i:i+1]+"_")
	}
	return l
}

func TestName(t *testing.T) {
	for _, s := range names() {
		if !word.Name(s) {
			t.Errorf("%q is a name", s)
		}
	}
	for _, s := range noNames() {
		if word.Name(s) {
			t.Errorf("%.40q is no name", s)
		}
	}
}

// pair is an argument and its word.
type pair struct {
	a api.Arg
	s string
}

// integers are whole numbers of all lengths, with their ends.
func integers() []int64 {
	l := []int64{0, 5, 7, 10, 42, 99, 100, 999, 1000, lowest, lowest + 1, highest, highest - 1, one, nan, infinite, 1 << 31, 1 << 32, 1 << 53, 1111111111111111}
	for n := int64(1); n < highest/10; n *= 10 {
		l = append(l, n, n+1, n*9, n*10-1)
	}
	for _, n := range l {
		if n > 0 {
			l = append(l, -n)
		}
	}
	return l
}

// floats are told as they are.
func floats() []int64 {
	l := []int64{0, 1, one, nan, infinite, infinite - 1, 0x0123456789abcdef, 0x3fb999999999999a, 0x7fefffffffffffff, 0x0010000000000000}
	for _, n := range l {
		if n != nan {
			l = append(l, n^lowest)
		}
	}
	return l
}

// toldAsNaN are floats that aren't told as they are.
func toldAsNaN() []int64 {
	return []int64{-1, nan + 1, nan - 1, nan ^ lowest, highest, infinite + 1, (infinite + 1) ^ lowest, 0x7ff4000000000000, 0x7ff8000000000001}
}

// hexadecimal has all sixteen digits.
func hexadecimal(n int64) string {
	s := strconv.FormatUint(uint64(n), 16)
	return strings.Repeat("0", 16-len(s)) + s
}

// pairs are right arguments, each with its word, as the library writes it; none stands there twice.
func pairs() []pair {
	l := []pair{{api.Arg{Kind: api.KNull}, "null"}}
	there := map[api.Arg]int{l[0].a: 1}
	add := func(a api.Arg, s string) {
		there[a]++
		if there[a] == 1 {
			l = append(l, pair{a, s})
		}
	}
	for _, s := range names() {
		add(api.Arg{Kind: api.KVar, S: s}, s)
	}
	for _, n := range integers() {
		add(api.Arg{Kind: api.KInt, N: n}, strconv.FormatInt(n, 10))
	}
	for _, n := range floats() {
		add(api.Arg{Kind: api.KFloat, N: n}, "0f"+hexadecimal(n))
	}
	for n := range int64(1000) {
		add(api.Arg{Kind: api.KObj, N: n}, "#"+strconv.FormatInt(n, 10))
	}
	return l
}

// wrong are arguments that aren't right: each is wrong in one thing, but for the first ones.
func wrong() []api.Arg {
	l := []api.Arg{
		{}, {S: "x"}, {N: 1}, {S: "x", N: 1},
		{Kind: api.KNull, N: 1}, {Kind: api.KNull, N: -1}, {Kind: api.KNull, N: lowest}, {Kind: api.KNull, S: "null"}, {Kind: api.KNull, S: "x"}, {Kind: api.KNull, S: " "},
		{Kind: api.KObj, N: -1}, {Kind: api.KObj, N: 1000}, {Kind: api.KObj, N: 1001}, {Kind: api.KObj, N: lowest}, {Kind: api.KObj, N: highest}, {Kind: api.KObj, N: 1 << 32},
		{Kind: api.KObj, S: "P"}, {Kind: api.KObj, S: "#3", N: 3}, {Kind: api.KObj, S: "#"},
		{Kind: api.KInt, S: "x"}, {Kind: api.KInt, S: "5", N: 5}, {Kind: api.KInt, S: "int"}, {Kind: api.KInt, S: "\x00"},
		{Kind: api.KFloat, S: "x"}, {Kind: api.KFloat, S: "0f3ff0000000000000", N: one}, {Kind: api.KFloat, S: "float", N: nan},
		{Kind: api.KVar, S: "x", N: 1}, {Kind: api.KVar, S: "x", N: -1}, {Kind: api.KVar, S: "x", N: lowest}, {Kind: api.KVar, N: 1},
	}
	for _, n := range toldAsNaN() {
		l = append(l, api.Arg{Kind: api.KFloat, N: n})
	}
	for _, s := range noNames() {
		l = append(l, api.Arg{Kind: api.KVar, S: s})
	}
	for _, kind := range []int{0, 6, 7, -1, -5, 100, 1 << 32, 1<<32 + 1, math.MinInt, math.MaxInt} {
		l = append(l, api.Arg{Kind: kind}, api.Arg{Kind: kind, S: "x"}, api.Arg{Kind: kind, N: 3})
	}
	return l
}

func TestRight(t *testing.T) {
	for _, p := range pairs() {
		if !word.Right(p.a) {
			t.Errorf("%v is right", p.a)
		}
	}
	for _, a := range wrong() {
		if word.Right(a) {
			t.Errorf("%v isn't right", a)
		}
	}
}

func TestPut(t *testing.T) {
	for _, p := range pairs() {
		if s := word.Put(p.a); s != p.s {
			t.Errorf("Put(%v) is %q, not %q", p.a, p.s, s)
		}
	}
	for _, a := range wrong() {
		if s := word.Put(a); s != "" {
			t.Errorf("Put(%v) is empty, not %.40q", a, s)
		}
	}
}

func TestGet(t *testing.T) {
	for _, p := range pairs() {
		if a, ok := word.Get(p.s); a != p.a || !ok {
			t.Errorf("Get(%q) is %v, not %v %v", p.s, p.a, a, ok)
		}
	}
}

// noWords are words of no argument: nearly numbers, floats, objects, null.
func noWords() []string {
	l := []string{
		"-", "--1", "-0", "+1", "+", "00", "01", "-01", "007", "1-", "1 ", " 1", "1.5", "1e3", "1_000", "5a", "0x10", "0b1", "0_", "- 1", "-#1", "1\n",
		"9223372036854775808", "-9223372036854775809", "18446744073709551616", "18446744073709551615", "99999999999999999999", strings.Repeat("9", 1<<20),
		"0f", "0f0", "0f000000000000000", "0f00000000000000000", "0F3ff0000000000000", "0f3FF0000000000000", "0f3ff000000000000g", "0f3ff00000000000 0", "1f3ff0000000000000", "-0f3ff0000000000000", "0f-ff0000000000000", "0g3ff0000000000000", "00f3ff000000000000", "0f3ff0000000000000 ", "0f" + strings.Repeat("0", 1<<20),
		"#", "##", "##1", "#-1", "#-0", "#+1", "#00", "#01", "#03", "#007", "#1000", "#1001", "#9999", "#x", "#null", "#1.0", "# 1", "#1 ", "1#", "#9223372036854775807", "#9223372036854775808", "#18446744073709551616", "#-9223372036854775808", "#0f3ff0000000000000", "#" + strings.Repeat("1", 1<<20),
		"int", "float", "null ", " null", "null\n", "-null", "null.", "null#",
	}
	for _, n := range toldAsNaN() {
		l = append(l, "0f"+hexadecimal(n))
	}
	return l
}

func TestGetOfNoWord(t *testing.T) {
	l := noWords()
	whose := map[string]int{}
	for _, p := range pairs() {
		whose[p.s] = 1
	}
	// What is no name may be the word of another kind.
	for _, s := range noNames() {
		if whose[s] == 0 {
			l = append(l, s)
		}
	}
	for _, s := range l {
		if a, ok := word.Get(s); ok || a != (api.Arg{}) {
			t.Errorf("Get(%.40q) is none, not %v %v", s, a, ok)
		}
	}
}

// What Get makes of each text of up to three bytes of those that words are made of, and some beside them: an argument that has this word, or none at all.
func TestGetOfShortTexts(t *testing.T) {
	const bytes = "#-0123456789abfnluxzAZ_ .+\x00\n\xff"
	texts := []string{""}
	for at := 0; at < len(texts); at++ {
		s := texts[at]
		a, ok := word.Get(s)
		if want := shortWord(s); ok != want {
			t.Errorf("Get(%q) is %v, not %v", s, want, ok)
		}
		if ok && (!word.Right(a) || word.Put(a) != s) || !ok && a != (api.Arg{}) {
			t.Errorf("Get(%q) isn't %v %v", s, a, ok)
		}
		if len(s) < 3 {
			for i := range len(bytes) {
				texts = append(texts, s+bytes[i:i+1])
			}
		}
	}
}

// shortWord tells, by other means than the program's, whether s, of at most three bytes, is an argument's word.
func shortWord(s string) bool {
	if s == "" || s == "int" {
		return false
	}
	if !strings.Contains(numeric, s[:1]) && strings.Trim(s, letters+numeric) == "" {
		return true
	}
	n, err := strconv.Atoi(strings.TrimPrefix(s, "#"))
	return err == nil && strconv.Itoa(n) == strings.TrimPrefix(s, "#") && (s[0] != '#' || n >= 0)
}

func TestGetOfPut(t *testing.T) {
	for _, p := range pairs() {
		if a, ok := word.Get(word.Put(p.a)); a != p.a || !ok {
			t.Errorf("Get of Put of %v is %v %v", p.a, a, ok)
		}
	}
}

// Arguments that are alike but in one thing, such as a float and a whole number with the same bits, have words of their own.
func TestUnlikeArgumentsHaveUnlikeWords(t *testing.T) {
	whose := map[string]api.Arg{}
	for _, p := range pairs() {
		s := word.Put(p.a)
		if b, ok := whose[s]; ok {
			t.Errorf("%v and %v both have the word %q", p.a, b, s)
		}
		whose[s] = p.a
	}
	for _, n := range []int64{0, 1, 999, one, nan, infinite} {
		of := map[string]int{}
		for _, kind := range []int{api.KInt, api.KFloat, api.KObj} {
			of[word.Put(api.Arg{Kind: kind, N: n})]++
		}
		if len(of) != 3 {
			t.Errorf("words of %d: %v", n, of)
		}
	}
}

// What is answered is new memory: a name doesn't keep the text that it was read out of.
func TestNamesAreOnTheirOwn(t *testing.T) {
	text := strings.Repeat("load x y ", 3)
	name := text[5:6]
	if a, _ := word.Get(name); a.S != "x" || unsafe.StringData(a.S) == unsafe.StringData(name) {
		t.Error("Get hands out a piece of its argument")
	}
	if s := word.Put(api.Arg{Kind: api.KVar, S: name}); s != "x" || unsafe.StringData(s) == unsafe.StringData(name) {
		t.Error("Put hands out a piece of its argument")
	}
}

func TestExamples(t *testing.T) {
	for s, want := range map[string]api.Arg{
		"x1": {Kind: api.KVar, S: "x1"}, "-5": {Kind: api.KInt, N: -5}, "0f3ff0000000000000": {Kind: api.KFloat, N: one}, "#3": {Kind: api.KObj, N: 3}, "null": {Kind: api.KNull},
	} {
		if a, ok := word.Get(s); a != want || !ok {
			t.Errorf("Get(%q) is %v, not %v %v", s, want, a, ok)
		}
	}
	for _, s := range []string{"1x", "int", "#03", "a.b"} {
		if a, ok := word.Get(s); ok || a != (api.Arg{}) {
			t.Errorf("Get(%q) is none, not %v %v", s, a, ok)
		}
	}
}
