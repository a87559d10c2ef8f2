package num_test

import (
	"math"
	"math/big"
	"strconv"
	"strings"
	"testing"

	"lateen/api"
	"lateen/num"
)

const (
	lowest  = math.MinInt64
	highest = math.MaxInt64
)

// some are numbers at which something may go wrong: the ends, noughts, both sides of powers of two and of ten.
func some() []int64 {
	l := []int64{lowest, lowest + 1, lowest + 2, highest, highest - 1, highest - 2, -10, -9, -7, 7, 9, 10, 12345, -12345}
	for at := 0; at < 63; at++ {
		power := int64(1) << at
		l = append(l, power, -power, power-1, 1-power, power+1, -power-1)
	}
	for ten := int64(10); ten <= highest/10; ten *= 10 {
		l = append(l, ten, ten-1, -ten, 1-ten)
	}
	return l
}

// round is the number from -2^63 to 2^63 - 1 that is the same as n modulo 2^64.
func round(n *big.Int) int64 {
	whole := new(big.Int).Lsh(big.NewInt(1), 64)
	rest := new(big.Int).Mod(n, whole)
	if rest.Cmp(big.NewInt(highest)) > 0 {
		rest.Sub(rest, whole)
	}
	return rest.Int64()
}

func holds(b bool) *big.Int {
	if b {
		return big.NewInt(1)
	}
	return big.NewInt(0)
}

// exact works op out with numbers of any size; nil, where there is no answer.
func exact(op int, x, y int64) *big.Int {
	a, b, z := big.NewInt(x), big.NewInt(y), new(big.Int)
	six := uint(new(big.Int).Mod(b, big.NewInt(64)).Uint64())
	switch op {
	case api.Add:
		return z.Add(a, b)
	case api.Sub:
		return z.Sub(a, b)
	case api.Mul:
		return z.Mul(a, b)
	case api.Div, api.Rem:
		if b.Sign() == 0 {
			return nil
		}
		if op == api.Div {
			return z.Quo(a, b)
		}
		return z.Rem(a, b)
	case api.And:
		return z.And(a, b)
	case api.Or:
		return z.Or(a, b)
	case api.Xor:
		return z.Xor(a, b)
	case api.Shl:
		return z.Lsh(a, six)
	case api.Shr:
		return z.Rsh(a, six)
	case api.Eq:
		return holds(a.Cmp(b) == 0)
	case api.Ne:
		return holds(a.Cmp(b) != 0)
	case api.Lt:
		return holds(a.Cmp(b) < 0)
	case api.Le:
		return holds(a.Cmp(b) <= 0)
	}
	return nil
}

func TestIs(t *testing.T) {
	known := map[int]bool{api.Add: true, api.Sub: true, api.Mul: true, api.Div: true, api.Rem: true, api.And: true, api.Or: true, api.Xor: true, api.Shl: true, api.Shr: true, api.Eq: true, api.Ne: true, api.Lt: true, api.Le: true}
	for op := -100; op <= 100; op++ {
		if num.Is(op) != known[op] {
			t.Error(op, num.Is(op))
		}
	}
	for _, op := range []int{math.MinInt, math.MaxInt, 1<<32 + api.Add, -1<<32 + api.Add, 256 + api.Add} {
		if num.Is(op) {
			t.Error(op)
		}
	}
}

func TestDoExact(t *testing.T) {
	for op := api.Add; op <= api.Le; op++ {
		for _, a := range some() {
			for _, b := range some() {
				var want int64
				z := exact(op, a, b)
				if z != nil {
					want = round(z)
				}
				if n, ok := num.Do(op, a, b); n != want || ok != (z != nil) {
					t.Fatal(op, a, b, n, ok, want)
				}
			}
		}
	}
}

func TestDoEdges(t *testing.T) {
	for _, x := range []struct {
		op         int
		a, b, want int64
	}{
		{api.Add, 2, 3, 5}, {api.Add, highest, 1, lowest}, {api.Add, lowest, -1, highest}, {api.Add, lowest, lowest, 0},
		{api.Sub, 2, 3, -1}, {api.Sub, lowest, 1, highest}, {api.Sub, 0, lowest, lowest},
		{api.Mul, -2, 3, -6}, {api.Mul, lowest, -1, lowest}, {api.Mul, 1 << 32, 1 << 32, 0}, {api.Mul, highest, highest, 1},
		{api.Div, 7, 2, 3}, {api.Div, -7, 2, -3}, {api.Div, 7, -2, -3}, {api.Div, -7, -2, 3}, {api.Div, lowest, -1, lowest}, {api.Div, lowest, 1, lowest}, {api.Div, 0, 5, 0},
		{api.Rem, 7, 2, 1}, {api.Rem, -7, 2, -1}, {api.Rem, 7, -2, 1}, {api.Rem, -7, -2, -1}, {api.Rem, lowest, -1, 0}, {api.Rem, lowest, highest, -1}, {api.Rem, -6, 2, 0},
		{api.And, 12, 10, 8}, {api.And, -1, 5, 5}, {api.And, lowest, -1, lowest},
		{api.Or, 12, 10, 14}, {api.Or, -1, 5, -1}, {api.Or, lowest, 1, lowest + 1},
		{api.Xor, 12, 10, 6}, {api.Xor, -1, 5, -6}, {api.Xor, lowest, highest, -1},
		{api.Shl, 1, 3, 8}, {api.Shl, 1, 63, lowest}, {api.Shl, 1, 64, 1}, {api.Shl, 1, 65, 2}, {api.Shl, 3, 63, lowest}, {api.Shl, 1, -1, lowest}, {api.Shl, 1, -64, 1}, {api.Shl, 5, lowest, 5}, {api.Shl, 1, highest, lowest}, {api.Shl, -1, 1, -2},
		{api.Shr, 8, 3, 1}, {api.Shr, -1, 63, -1}, {api.Shr, -8, 1, -4}, {api.Shr, -7, 1, -4}, {api.Shr, lowest, 63, -1}, {api.Shr, highest, 62, 1}, {api.Shr, 8, 64, 8}, {api.Shr, 8, 65, 4}, {api.Shr, lowest, -1, -1}, {api.Shr, -8, -63, -4}, {api.Shr, -5, lowest, -5},
		{api.Eq, 2, 2, 1}, {api.Eq, 2, -2, 0}, {api.Eq, lowest, lowest, 1},
		{api.Ne, 2, 2, 0}, {api.Ne, lowest, highest, 1},
		{api.Lt, 2, 2, 0}, {api.Lt, lowest, highest, 1}, {api.Lt, highest, lowest, 0}, {api.Lt, -1, 0, 1},
		{api.Le, 2, 2, 1}, {api.Le, lowest, highest, 1}, {api.Le, highest, lowest, 0}, {api.Le, 1, 0, 0},
	} {
		if n, ok := num.Do(x.op, x.a, x.b); n != x.want || !ok {
			t.Error(x, n, ok)
		}
	}
}

func TestDoBy0(t *testing.T) {
	for _, op := range []int{api.Div, api.Rem} {
		for _, a := range []int64{0, 1, -1, lowest, highest} {
			if n, ok := num.Do(op, a, 0); n != 0 || ok {
				t.Error(op, a, n, ok)
			}
		}
	}
}

func TestDoNone(t *testing.T) {
	ops := []int{math.MinInt, math.MaxInt, 1<<32 + api.Add, -1<<32 + api.Add, 256 + api.Add}
	for op := -100; op <= 100; op++ {
		if op < 1 || op > 14 {
			ops = append(ops, op)
		}
	}
	for _, op := range ops {
		for _, b := range []int64{0, 1, -1, lowest, highest} {
			if n, ok := num.Do(op, 5, b); n != 0 || ok {
				t.Error(op, b, n, ok)
			}
		}
	}
}

func TestPutAndGet(t *testing.T) {
	for n := int64(-1100); n <= 1100; n++ {
		holdPutAndGet(t, n)
	}
	for _, n := range some() {
		holdPutAndGet(t, n)
	}
}

func holdPutAndGet(t *testing.T, n int64) {
	s := num.Put(n)
	if s != strconv.FormatInt(n, 10) {
		t.Error(n, s)
	}
	if m, ok := num.Get(s); m != n || !ok {
		t.Error(n, s, m, ok)
	}
}

func TestPutWords(t *testing.T) {
	for _, x := range []struct {
		n int64
		s string
	}{{0, "0"}, {-1, "-1"}, {9, "9"}, {10, "10"}, {-10, "-10"}, {100, "100"}, {highest, "9223372036854775807"}, {lowest, "-9223372036854775808"}} {
		if s := num.Put(x.n); s != x.s {
			t.Error(x, s)
		}
		if n, ok := num.Get(x.s); n != x.n || !ok {
			t.Error(x, n, ok)
		}
	}
}

func TestGetNone(t *testing.T) {
	for _, s := range []string{
		"", "-", "+", "--1", "---", "1-", "1-1", "+1", "+0", "-+1",
		"-0", "00", "-00", "01", "-01", "007", "0000000000000000001", "00000000000000000001",
		"9223372036854775808", "-9223372036854775809", "9999999999999999999", "-9999999999999999999",
		"18446744073709551615", "18446744073709551616", "18446744073709551617", "-18446744073709551617",
		"99999999999999999999", "-99999999999999999999", "99999999999999999999999999", "340282366920938463463374607431768211457",
		" 1", "1 ", "1\n", "\t1", "1\x00", "\x001", "- 1", "1 2", "1.", "1.0", "1e3", "0x10", "1_000", "1,000", "x", "a1", "1a",
		":", "/", "1:", "1/", "-:", "0:", "\xff", "1\xff", "\u0661", "\uff11", "\u22121",
		strings.Repeat("0", 1000) + "1", strings.Repeat("1", 1000), "-" + strings.Repeat("9", 1<<16), strings.Repeat(" ", 20) + "1", "1" + strings.Repeat("\x00", 20),
	} {
		if n, ok := num.Get(s); n != 0 || ok {
			t.Errorf("%.40q %d %v", s, n, ok)
		}
	}
}

// TestGetShort holds Get against the library on all texts of at most two bytes, and with each byte put into a number.
func TestGetShort(t *testing.T) {
	var l []string
	for a := 0; a < 256; a++ {
		one := string([]byte{byte(a)})
		l = append(l, one, "12"+one+"4", "-12"+one+"4", one+"1234", "1234"+one)
		for b := 0; b < 256; b++ {
			l = append(l, string([]byte{byte(a), byte(b)}))
		}
	}
	for _, s := range l {
		want, err := strconv.ParseInt(s, 10, 64)
		is := err == nil && strconv.FormatInt(want, 10) == s
		if !is {
			want = 0
		}
		if n, ok := num.Get(s); n != want || ok != is {
			t.Errorf("%q %d %v", s, n, ok)
		}
	}
}
