package syntax_test

import (
	"reflect"
	"sort"
	"strings"
	"testing"
	"unsafe"

	"lateen/syntax"
)

// stretch is where a text's or a list's bytes are, with its spare room.
type stretch struct {
	from, to uintptr
	list     bool
}

// stretches answers those of all that is in v.
func stretches(v reflect.Value) []stretch {
	var l []stretch
	switch v.Kind() {
	case reflect.String:
		if v.Len() > 0 {
			from := uintptr(unsafe.Pointer(unsafe.StringData(v.String())))
			l = append(l, stretch{from, from + uintptr(v.Len()), false})
		}
	case reflect.Slice:
		if size := uintptr(v.Cap()) * v.Type().Elem().Size(); size > 0 {
			l = append(l, stretch{v.Pointer(), v.Pointer() + size, true})
		}
		for i := range v.Len() {
			l = append(l, stretches(v.Index(i))...)
		}
	case reflect.Struct:
		for i := range v.NumField() {
			l = append(l, stretches(v.Field(i))...)
		}
	}
	return l
}

// What is answered keeps no piece of the text, and no two of its lists share a place, in their spare room neither.
func TestAnswersAreNewMemory(t *testing.T) {
	text := strings.Repeat(sample, 1)
	copied := strings.Clone(text)
	p, _, _ := syntax.Parse(text)
	from := uintptr(unsafe.Pointer(unsafe.StringData(text)))
	l := stretches(reflect.ValueOf(p))
	var lists []stretch
	for _, s := range l {
		if s.from < from+uintptr(len(text)) && s.to > from {
			t.Error("a piece of the text is handed out")
		}
		if s.list {
			lists = append(lists, s)
		}
	}
	if len(lists) < 40 || len(l) < 150 {
		t.Fatal(len(lists), len(l))
	}
	sort.Slice(lists, func(a, b int) bool { return lists[a].from < lists[b].from })
	for i := 1; i < len(lists); i++ {
		if lists[i].from < lists[i-1].to {
			t.Error("two lists share a place")
		}
	}
	if text != copied {
		t.Error("the text is changed")
	}
}

// Two answers share nothing, and nothing is kept from call to call.
func TestAnswersAreOnTheirOwn(t *testing.T) {
	p, _, _ := syntax.Parse(sample)
	want := write(p)
	p.Classes[0].Fields[0].Name = "other"
	p.Funcs[0].Blocks[0].Code[0].Args[0] = null()
	p.Funcs[0].Blocks[0].Code[5].Frames[0].Vars[0].Name = "other"
	p.Funcs[0].Blocks[0].End.To[0] = "other"
	p.Funcs = append(p.Funcs[:1], p.Funcs[0])
	_, _, _ = syntax.Parse("ssa\nclass C\nx")
	q, _, _ := syntax.Parse(sample)
	if write(q) != want || write(p) == want {
		t.Error("what is answered hangs on what was answered")
	}
	at := map[uintptr]int{}
	for _, s := range stretches(reflect.ValueOf(p)) {
		at[s.from] = 1
	}
	for _, s := range stretches(reflect.ValueOf(q)) {
		// The same constant text may stand in both.
		if s.list && at[s.from] != 0 {
			t.Error("two answers share a list")
		}
	}
}
