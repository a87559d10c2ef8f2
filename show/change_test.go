package show_test

import (
	"math"
	"math/rand"
	"reflect"
	"strings"
	"testing"

	"lateen/api"
)

// texts and numbers are what may be put in a place, right or wrong there.
func texts() []string {
	return []string{"", "x", "b0", "_", "ssa", "add", "block", "Int", "int", "float", "null", "abcdefghijklmnop", "abcdefghijklmnopq", "1", "1x", "-1", "0", "a b", "a ", " a", "a;", ";", "=", "#1", "a.b", "\n", "a\nret 1", "int\nparam k int", "x = mov 1\n", "é", "\x00", "0f3ff0000000000000"}
}

func numbers(n int64) []int64 {
	l := []int64{n - 1, n + 1, -n, 7, 8, 9, 98, 99, 999, 1000, 1024, 1025, math.MinInt64, math.MaxInt64, math.MinInt32, math.MaxUint32 + 1, 0x7ff0000000000000, 0x7ff0000000000001, 0x7ff8000000000000, 0x7ff8000000000001}
	for i := int64(-2); i <= api.Guard+2; i++ {
		l = append(l, i)
	}
	return l
}

// lists are the lists that v may be changed for: empty ones, shorter and longer ones, and some with a zero part.
func lists(v reflect.Value) []reflect.Value {
	zero := reflect.Zero(v.Type().Elem())
	l := []reflect.Value{reflect.Zero(v.Type()), reflect.MakeSlice(v.Type(), 0, 2), reflect.Append(reflect.MakeSlice(v.Type(), 0, 1), zero)}
	n := v.Len()
	if n == 0 {
		return l
	}
	join := func(parts ...reflect.Value) {
		to := reflect.MakeSlice(v.Type(), 0, n+1)
		for _, p := range parts {
			to = reflect.AppendSlice(to, p)
		}
		l = append(l, to)
	}
	join(v.Slice(1, n))
	join(v.Slice(0, n-1))
	join(v, v.Slice(0, 1))
	join(v.Slice(n-1, n), v)
	join(v, v, v, v, v, v, v, v, v, v)
	return append(l, reflect.Append(v.Slice3(0, n, n), zero))
}

// changes are the values that v may be changed for.
func changes(v reflect.Value) []reflect.Value {
	var l []reflect.Value
	switch v.Kind() {
	case reflect.String:
		for _, s := range texts() {
			l = append(l, reflect.ValueOf(s))
		}
	case reflect.Int, reflect.Int64:
		for _, n := range numbers(v.Int()) {
			l = append(l, reflect.ValueOf(n).Convert(v.Type()))
		}
	case reflect.Bool:
		l = append(l, reflect.ValueOf(!v.Bool()))
	case reflect.Slice:
		l = lists(v)
	case reflect.Struct:
		l = append(l, reflect.Zero(v.Type()))
	}
	return l
}

// Each place of the sample, changed for each value that may be put there; all against what is written and read.
func TestEachPlace(t *testing.T) {
	t.Parallel()
	p := parsed(t, sample)
	right, wrong := 0, 0
	walk(reflect.ValueOf(&p).Elem(), func(v reflect.Value) {
		was := reflect.New(v.Type()).Elem()
		was.Set(v)
		for _, c := range changes(was) {
			v.Set(c)
			if hold(t, p) {
				right++
			} else {
				wrong++
			}
		}
		v.Set(was)
	})
	if text := write(p); text != sample {
		t.Fatal("the sample stayed changed")
	}
	if right < 2000 || wrong < 5000 {
		t.Error(right, wrong)
	}
}

// Some places changed, and again from what is readable then, as chance has them (always the same).
func TestSomePlaces(t *testing.T) {
	t.Parallel()
	chance := rand.New(rand.NewSource(6))
	first := parsed(t, sample)
	p := copied(first)
	right, wrong := 0, 0
	for range 8000 {
		next := copied(p)
		for range 1 + chance.Intn(2) {
			change(chance, &next)
		}
		if hold(t, next) {
			right++
			p = next
		} else {
			wrong++
		}
		if chance.Intn(200) == 0 || strings.Count(write(p), "\n") > 200 {
			p = copied(first)
		}
	}
	if right < 1000 || wrong < 1000 {
		t.Error(right, wrong)
	}
}

// change changes one place of p.
func change(chance *rand.Rand, p *api.Program) {
	var places []reflect.Value
	walk(reflect.ValueOf(p).Elem(), func(v reflect.Value) { places = append(places, v) })
	v := places[1+chance.Intn(len(places)-1)]
	l := changes(v)
	v.Set(l[chance.Intn(len(l))])
	// Parts that came in more than once lie in one place: each gets its own.
	*p = copied(*p)
}
