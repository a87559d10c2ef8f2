package flo_test

import (
	"math"
	"math/big"
	"strconv"
	"strings"
	"testing"

	"lateen/api"
	"lateen/flo"
)

// Floats by their bits; those below 0 are below 0 as numbers too, but for what is told as NaN.
const (
	sign     = math.MinInt64
	nan      = 0x7ff8000000000000
	infinite = 0x7ff0000000000000
	nought   = 0
	least    = 1
	fraction = 0x000fffffffffffff // the greatest float without a whole exponent
	normal   = 0x0010000000000000 // the least float with one
	greatest = 0x7fefffffffffffff
	half     = 0x3fe0000000000000
	one      = 0x3ff0000000000000
	two      = 0x4000000000000000
	three    = 0x4008000000000000
	lowest   = math.MinInt64
	highest  = math.MaxInt64
)

func minus(n int64) int64 {
	return n ^ sign
}

// ofWords is the float that the library reads.
func ofWords(s string) int64 {
	x, err := strconv.ParseFloat(s, 64)
	if err != nil {
		panic(err)
	}
	return int64(math.Float64bits(x))
}

// nans are floats of many bits that are told as NaN, NaN itself among them.
func nans() []int64 {
	l := []int64{nan, nan + 1, highest, nan - 1, infinite + 1, infinite + 0x123, 0x7ff4000000000000}
	for at := 0; at < 52; at++ {
		l = append(l, infinite|1<<at)
	}
	for _, n := range l {
		l = append(l, minus(n))
	}
	return l
}

// plain are floats that are told as they are: noughts, ends, both sides of the ends, ties, and ordinary ones, of either sign.
func plain() []int64 {
	l := []int64{
		nought, least, 2, 3, fraction - 1, fraction, normal, normal + 1, normal + 2, infinite, greatest, greatest - 1, 0x7fe0000000000000,
		half, one, two, three, one - 1, one + 1, one + 2, one + 3, half + 1, three - 1,
		0x3ca0000000000000, 0x3ca0000000000001, 0x3c9fffffffffffff, 0x3cb0000000000000, // 2^-53, beside it, and 2^-52
		0x4330000000000000, 0x4340000000000000, 0x4340000000000001, 0x433fffffffffffff, // 2^52, 2^53
		0x43d0000000000000, 0x43dfffffffffffff, 0x43e0000000000000, 0x43e0000000000001, 0x43f0000000000000, // 2^62, 2^63, 2^64
		0x1ff0000000000000, 0x5fe0000000000000, 0x1e60000000000000, 0x2000000000000001,
	}
	for _, s := range []string{"0.1", "0.2", "0.3", "3.141592653589793", "1e10", "123456.789", "1e100", "1e-100", "1e308", "1e-308", "5.5"} {
		l = append(l, ofWords(s))
	}
	for _, n := range l {
		l = append(l, minus(n))
	}
	return l
}

func some() []int64 {
	return append(plain(), nans()...)
}

// row is a long row of floats without a rule that is seen, the same each time.
func row(long int) []int64 {
	var l []int64
	u := uint64(88172645463325252)
	for range long {
		u ^= u << 13
		u ^= u >> 7
		u ^= u << 17
		l = append(l, int64(u))
	}
	return l
}

// toldAsNaN goes by the words: the exponent is all ones, and the fraction isn't 0.
func toldAsNaN(n int64) bool {
	return uint64(n)>>52&0x7ff == 0x7ff && uint64(n)<<12 != 0
}

func isInfinite(n int64) bool {
	return n == infinite || n == minus(infinite)
}

func isNought(n int64) bool {
	return n == nought || n == minus(nought)
}

// rat is the number that n is; n is neither NaN nor beyond all numbers.
func rat(n int64) *big.Rat {
	return new(big.Rat).SetFloat64(math.Float64frombits(uint64(n)))
}

// near is the float nearest to what isn't rounded, signed, where it is 0.
func near(z *big.Rat, signOf0 int64) int64 {
	if z.Sign() == 0 {
		return signOf0
	}
	x, _ := z.Float64()
	return int64(math.Float64bits(x))
}

func exactSum(a, b int64) int64 {
	switch {
	case isInfinite(a) && b == minus(a):
		return nan
	case isInfinite(a):
		return a
	case isInfinite(b):
		return b
	}
	return near(new(big.Rat).Add(rat(a), rat(b)), a&b&sign)
}

func exactProduct(a, b int64) int64 {
	s := (a ^ b) & sign
	switch {
	case isInfinite(a) && isNought(b), isNought(a) && isInfinite(b):
		return nan
	case isInfinite(a), isInfinite(b):
		return s | infinite
	}
	return near(new(big.Rat).Mul(rat(a), rat(b)), s)
}

func exactQuotient(a, b int64) int64 {
	s := (a ^ b) & sign
	switch {
	case isInfinite(a) && isInfinite(b), isNought(a) && isNought(b):
		return nan
	case isInfinite(a), isNought(b):
		return s | infinite
	case isInfinite(b):
		return s
	}
	return near(new(big.Rat).Quo(rat(a), rat(b)), s)
}

// rank is a whole number that is less, equal or more as the float is.
func rank(n int64) int64 {
	if n < 0 {
		return -minus(n)
	}
	return n
}

func truth(b bool) int64 {
	if b {
		return 1
	}
	return 0
}

// exact works op out with numbers of any size, and whole numbers.
func exact(op int, a, b int64) int64 {
	none := toldAsNaN(a) || toldAsNaN(b)
	switch op {
	case api.Feq:
		return truth(!none && rank(a) == rank(b))
	case api.Flt:
		return truth(!none && rank(a) < rank(b))
	case api.Fle:
		return truth(!none && rank(a) <= rank(b))
	}
	if none {
		return nan
	}
	switch op {
	case api.Fadd:
		return exactSum(a, b)
	case api.Fsub:
		return exactSum(a, minus(b))
	case api.Fmul:
		return exactProduct(a, b)
	}
	return exactQuotient(a, b)
}

func TestPlain(t *testing.T) {
	for _, n := range nans() {
		if got := flo.Plain(n); got != nan {
			t.Errorf("%x %x", n, got)
		}
	}
	for _, n := range plain() {
		if got := flo.Plain(n); got != n {
			t.Errorf("%x %x", n, got)
		}
	}
	for _, n := range row(10000) {
		want := n
		if toldAsNaN(n) {
			want = nan
		}
		if got := flo.Plain(n); got != want {
			t.Errorf("%x %x", n, got)
		}
	}
}

// noFloats are numbers of no instruction on floats alone: their neighbours, and what is one when it is cut short.
func noFloats() []int {
	l := []int{math.MinInt, math.MaxInt, 1<<32 + api.Fadd, -1<<32 + api.Fadd, 256 + api.Fadd, -api.Fadd}
	for op := -100; op <= 100; op++ {
		if op < 15 || op > 21 {
			l = append(l, op)
		}
	}
	return l
}

func TestIs(t *testing.T) {
	for _, op := range []int{api.Fadd, api.Fsub, api.Fmul, api.Fdiv, api.Feq, api.Flt, api.Fle} {
		if !flo.Is(op) {
			t.Error(op)
		}
	}
	for _, op := range noFloats() {
		if flo.Is(op) {
			t.Error(op)
		}
	}
}

func TestDoNone(t *testing.T) {
	for _, op := range noFloats() {
		for _, b := range []int64{nought, minus(nought), one, nan, infinite, -1} {
			if n, ok := flo.Do(op, one, b); n != 0 || ok {
				t.Error(op, b, n, ok)
			}
		}
	}
}

func holdDo(t *testing.T, op int, a, b int64) {
	want := exact(op, a, b)
	if n, ok := flo.Do(op, a, b); n != want || !ok {
		t.Errorf("%d of %x and %x: %x %v, not %x", op, a, b, n, ok, want)
	}
}

func TestDoExact(t *testing.T) {
	for op := api.Fadd; op <= api.Fle; op++ {
		for _, a := range plain() {
			for _, b := range plain() {
				holdDo(t, op, a, b)
			}
		}
	}
}

// TestDoLike has pairs of like size, so that sums and differences are rounded, and cancel each other.
func TestDoLike(t *testing.T) {
	l := row(4000)
	for op := api.Fadd; op <= api.Fle; op++ {
		for i := 0; i+1 < len(l); i += 2 {
			a, b := l[i], l[i+1]
			holdDo(t, op, a, b)
			near := a&^0x3ffffffffffff | b&0x3ffffffffffff
			holdDo(t, op, a, near)
			holdDo(t, op, a, minus(near))
		}
	}
}

func TestDoOfNaN(t *testing.T) {
	for op := api.Fadd; op <= api.Fle; op++ {
		want := int64(nan)
		if op >= api.Feq {
			want = 0
		}
		for _, a := range nans() {
			for _, b := range some() {
				if n, ok := flo.Do(op, a, b); n != want || !ok {
					t.Errorf("%d of %x and %x: %x %v", op, a, b, n, ok)
				}
				if n, ok := flo.Do(op, b, a); n != want || !ok {
					t.Errorf("%d of %x and %x: %x %v", op, b, a, n, ok)
				}
			}
		}
	}
}

type worked struct {
	op         int
	a, b, want int64
}

func holdWorked(t *testing.T, l []worked) {
	for _, x := range l {
		if n, ok := flo.Do(x.op, x.a, x.b); n != x.want || !ok {
			t.Errorf("%d of %x and %x: %x %v, not %x", x.op, x.a, x.b, n, ok, x.want)
		}
	}
}

// TestDoNoughts is reckoned by hand.
func TestDoNoughts(t *testing.T) {
	below := minus(nought)
	holdWorked(t, []worked{
		{api.Fadd, one, minus(one), nought}, {api.Fadd, minus(one), one, nought}, {api.Fsub, one, one, nought}, {api.Fsub, minus(one), minus(one), nought},
		{api.Fadd, below, below, below}, {api.Fadd, below, nought, nought}, {api.Fadd, nought, below, nought}, {api.Fadd, nought, nought, nought}, {api.Fadd, below, one, one},
		{api.Fsub, below, nought, below}, {api.Fsub, nought, nought, nought}, {api.Fsub, below, below, nought}, {api.Fsub, nought, below, nought}, {api.Fsub, nought, one, minus(one)},
		{api.Fmul, below, one, below}, {api.Fmul, nought, minus(one), below}, {api.Fmul, below, minus(one), nought}, {api.Fmul, below, below, nought}, {api.Fmul, minus(nought), nought, below},
		{api.Fdiv, nought, one, nought}, {api.Fdiv, below, one, below}, {api.Fdiv, nought, minus(three), below}, {api.Fdiv, below, minus(one), nought},
		{api.Fdiv, one, nought, infinite}, {api.Fdiv, one, below, minus(infinite)}, {api.Fdiv, minus(one), nought, minus(infinite)}, {api.Fdiv, minus(one), below, infinite},
		{api.Fdiv, nought, nought, nan}, {api.Fdiv, below, nought, nan}, {api.Fdiv, nought, below, nan}, {api.Fdiv, below, below, nan},
		{api.Feq, nought, below, 1}, {api.Feq, below, nought, 1}, {api.Flt, below, nought, 0}, {api.Flt, nought, below, 0}, {api.Fle, nought, below, 1}, {api.Fle, below, nought, 1},
	})
}

func TestDoInfinite(t *testing.T) {
	below := minus(infinite)
	holdWorked(t, []worked{
		{api.Fadd, infinite, infinite, infinite}, {api.Fadd, infinite, below, nan}, {api.Fadd, below, infinite, nan}, {api.Fadd, below, below, below}, {api.Fadd, infinite, one, infinite}, {api.Fadd, greatest, below, below},
		{api.Fsub, infinite, infinite, nan}, {api.Fsub, below, below, nan}, {api.Fsub, infinite, below, infinite}, {api.Fsub, below, infinite, below}, {api.Fsub, one, infinite, below},
		{api.Fmul, infinite, nought, nan}, {api.Fmul, minus(nought), infinite, nan}, {api.Fmul, infinite, below, below}, {api.Fmul, below, below, infinite}, {api.Fmul, infinite, minus(least), below},
		{api.Fdiv, infinite, infinite, nan}, {api.Fdiv, infinite, below, nan}, {api.Fdiv, infinite, nought, infinite}, {api.Fdiv, infinite, minus(nought), below}, {api.Fdiv, one, infinite, nought}, {api.Fdiv, one, below, minus(nought)},
		{api.Feq, infinite, infinite, 1}, {api.Feq, infinite, below, 0}, {api.Feq, infinite, greatest, 0}, {api.Flt, greatest, infinite, 1}, {api.Flt, below, minus(greatest), 1}, {api.Flt, infinite, infinite, 0}, {api.Fle, infinite, infinite, 1}, {api.Fle, infinite, greatest, 0},
	})
}

func TestDoRounded(t *testing.T) {
	tie := int64(0x3ca0000000000000) // 2^-53: half of what lies between 1 and the next float
	holdWorked(t, []worked{
		{api.Fadd, one, one, two}, {api.Fadd, one, two, three}, {api.Fsub, three, two, one}, {api.Fmul, three, half, ofWords("1.5")}, {api.Fdiv, three, two, ofWords("1.5")},
		{api.Fadd, ofWords("0.1"), ofWords("0.2"), ofWords("0.30000000000000004")}, {api.Fdiv, one, three, 0x3fd5555555555555}, {api.Fdiv, two, three, 0x3fe5555555555555},
		{api.Fadd, one, tie, one}, {api.Fadd, one + 1, tie, one + 2}, {api.Fadd, one + 2, tie, one + 2}, {api.Fadd, one, tie + 1, one + 1}, {api.Fadd, one, tie - 1, one},
		{api.Fadd, minus(one), minus(tie), minus(one)}, {api.Fadd, minus(one + 1), minus(tie), minus(one + 2)},
		{api.Fadd, greatest, greatest, infinite}, {api.Fadd, greatest, 0x7c90000000000000, infinite}, {api.Fadd, greatest, 0x7c8fffffffffffff, greatest}, {api.Fsub, minus(greatest), greatest, minus(infinite)}, {api.Fmul, greatest, two, infinite}, {api.Fmul, greatest, minus(two), minus(infinite)}, {api.Fdiv, greatest, half, infinite},
		{api.Fmul, least, half, nought}, {api.Fmul, minus(least), half, minus(nought)}, {api.Fmul, 3, half, 2}, {api.Fmul, 5, half, 2}, {api.Fdiv, least, two, nought}, {api.Fdiv, minus(least), two, minus(nought)}, {api.Fmul, least, least, nought},
		{api.Fsub, normal, least, fraction}, {api.Fadd, fraction, least, normal}, {api.Fadd, least, least, 2}, {api.Fsub, normal + 1, normal, least}, {api.Fmul, normal, half, normal / 2},
		{api.Flt, nought, least, 1}, {api.Flt, minus(least), nought, 1}, {api.Flt, one, one, 0}, {api.Fle, one, one, 1}, {api.Flt, minus(two), minus(one), 1}, {api.Flt, minus(one), minus(two), 0}, {api.Feq, one, one + 1, 0}, {api.Feq, one, minus(one), 0}, {api.Fle, two, one, 0},
	})
}

// wholes are whole numbers: the ends, and both sides of powers of two and of what lies half way between floats.
func wholes() []int64 {
	l := []int64{0, 1, -1, 7, -7, 12345, -12345, lowest, lowest + 1, lowest + 512, lowest + 513, lowest + 1536, highest, highest - 1, highest - 511, highest - 512, highest - 513, highest - 1535, highest - 1536}
	for at := 1; at < 63; at++ {
		power := int64(1) << at
		for _, d := range []int64{-3, -2, -1, 0, 1, 2, 3} {
			l = append(l, power+d, -power+d)
		}
		if at > 53 {
			step := int64(1) << (at - 53)
			for _, d := range []int64{step, 3 * step, step + 1, step - 1, 3*step - 1, 3*step + 1} {
				l = append(l, power+d, -power-d)
			}
		}
	}
	return append(l, row(2000)...)
}

func TestOfInt(t *testing.T) {
	for _, n := range wholes() {
		want := near(new(big.Rat).SetInt64(n), nought)
		if got := flo.OfInt(n); got != want {
			t.Errorf("%d %x, not %x", n, got, want)
		}
	}
	for _, x := range []struct{ n, want int64 }{
		{0, nought}, {1, one}, {-1, minus(one)}, {2, two}, {3, three},
		{1 << 53, 0x4340000000000000}, {1<<53 + 1, 0x4340000000000000}, {1<<53 + 2, 0x4340000000000001}, {1<<53 + 3, 0x4340000000000002}, {-1<<53 - 1, minus(0x4340000000000000)}, {-1<<53 - 3, minus(0x4340000000000002)}, {1<<53 - 1, 0x433fffffffffffff},
		{highest, 0x43e0000000000000}, {highest - 511, 0x43e0000000000000}, {highest - 512, 0x43dfffffffffffff}, {lowest, minus(0x43e0000000000000)}, {lowest + 512, minus(0x43e0000000000000)}, {lowest + 513, minus(0x43dfffffffffffff)},
	} {
		if got := flo.OfInt(x.n); got != x.want {
			t.Errorf("%d %x, not %x", x.n, got, x.want)
		}
	}
}

// cut is the whole number that ToInt must answer, worked out without floats.
func cut(n int64) int64 {
	z := new(big.Int)
	switch {
	case toldAsNaN(n):
		return 0
	case n == infinite:
		return highest
	case n == minus(infinite):
		return lowest
	}
	r := rat(n)
	z.Quo(r.Num(), r.Denom())
	switch {
	case z.Cmp(big.NewInt(lowest)) < 0:
		return lowest
	case z.Cmp(big.NewInt(highest)) > 0:
		return highest
	}
	return z.Int64()
}

func TestToInt(t *testing.T) {
	l := append(some(), row(2000)...)
	for _, n := range row(2000) {
		// An exponent from -2 to 69 beside its sign and fraction.
		l = append(l, n&^infinite|(1021+(n>>52&0x7ff)%72)<<52)
	}
	for _, n := range l {
		if got, want := flo.ToInt(n), cut(n); got != want {
			t.Errorf("%x %d, not %d", n, got, want)
		}
	}
}

func TestToIntEdges(t *testing.T) {
	for _, x := range []struct{ n, want int64 }{
		{nought, 0}, {minus(nought), 0}, {least, 0}, {minus(least), 0}, {half, 0}, {minus(half), 0}, {one - 1, 0}, {minus(one - 1), 0}, {one, 1}, {minus(one), -1}, {two - 1, 1}, {minus(two - 1), -1},
		{ofWords("2.5"), 2}, {ofWords("-2.5"), -2}, {ofWords("-7.999"), -7}, {ofWords("1e10"), 10000000000},
		{nan, 0}, {minus(nan), 0}, {infinite + 1, 0}, {minus(infinite + 1), 0}, {highest, 0}, {-1, 0},
		{infinite, highest}, {minus(infinite), lowest}, {greatest, highest}, {minus(greatest), lowest},
		{0x43dfffffffffffff, highest - 1023}, {0x43e0000000000000, highest}, {0x43e0000000000001, highest}, {0x43f0000000000000, highest}, {0x43f0000000000001, highest},
		{minus(0x43dfffffffffffff), lowest + 1024}, {minus(0x43e0000000000000), lowest}, {minus(0x43e0000000000001), lowest}, {minus(0x43f0000000000000), lowest},
	} {
		if got := flo.ToInt(x.n); got != x.want {
			t.Errorf("%x %d, not %d", x.n, got, x.want)
		}
	}
}

// words are the sixteen digits of n, told by the library.
func words(n int64) string {
	s := strconv.FormatUint(uint64(n), 16)
	return "0f" + strings.Repeat("0", 16-len(s)) + s
}

func TestPutAndGet(t *testing.T) {
	for _, n := range append(some(), row(10000)...) {
		is := n
		if toldAsNaN(n) {
			is = nan
		}
		s := flo.Put(n)
		if s != words(is) {
			t.Errorf("%x %s", n, s)
		}
		if m, ok := flo.Get(s); m != is || !ok {
			t.Errorf("%x %s %x %v", n, s, m, ok)
		}
	}
}

func TestPutWords(t *testing.T) {
	for _, x := range []struct {
		n int64
		s string
	}{
		{nought, "0f0000000000000000"}, {minus(nought), "0f8000000000000000"}, {one, "0f3ff0000000000000"}, {minus(one), "0fbff0000000000000"}, {nan, "0f7ff8000000000000"}, {infinite, "0f7ff0000000000000"}, {minus(infinite), "0ffff0000000000000"},
		{least, "0f0000000000000001"}, {0x0123456789abcdef, "0f0123456789abcdef"}, {greatest, "0f7fefffffffffffff"}, {minus(greatest), "0fffefffffffffffff"},
	} {
		if s := flo.Put(x.n); s != x.s {
			t.Error(x, s)
		}
		if n, ok := flo.Get(x.s); n != x.n || !ok {
			t.Error(x, n, ok)
		}
	}
}

func holdNone(t *testing.T, s string) {
	if n, ok := flo.Get(s); n != 0 || ok {
		t.Errorf("%.40q %x %v", s, n, ok)
	}
}

func TestGetNone(t *testing.T) {
	for _, s := range []string{
		"", "0", "0f", "f", "0f0", "0f3ff", "0f3ff000000000000", "0f3ff00000000000000", "3ff0000000000000", "003ff0000000000000",
		"0F3ff0000000000000", "0x3ff0000000000000", "1f3ff0000000000000", "ff3ff0000000000000", "f03ff0000000000000", "0f3FF0000000000000", "0f3ff000000000000A", "0f3ff000000000000F", "0f3ff000000000000g", "0f3ff000000000000G",
		"0f3ff000000000000:", "0f3ff000000000000/", "0f3ff000000000000`", "0f3ff000000000000@", "0f-ff0000000000000", "0f+ff0000000000000", "-0f3ff000000000000", "0f3ff_000000000000",
		" 0f3ff0000000000000", "0f3ff0000000000000 ", "0f3ff0000000000000\n", " 0f3ff000000000000", "0f3ff000000000000 ", "0f 3ff000000000000", "0f\x00000000000000000", "\x000f000000000000000",
		"1", "1.5", "-1", "nan", "NaN", "inf", "0.0000000000000000", "000000000000000000", "ffffffffffffffffff",
		"0f\u0663ff00000000000", "0f3ff00000000000\u00e9", strings.Repeat("\xff", 18), strings.Repeat("0f", 1<<16), "0f" + strings.Repeat("0", 32), strings.Repeat("0", 14) + "0f00",
	} {
		holdNone(t, s)
	}
	for _, n := range nans() {
		if n != nan {
			holdNone(t, words(n))
		}
	}
}

// TestGetBytes puts each byte in each place of some floats' texts, and cuts them at each place.
func TestGetBytes(t *testing.T) {
	for _, s := range []string{"0f3ff0000000000000", "0f8000000000000000", "0f7ff8000000000000", "0f7ff0000000000000", "0f0123456789abcdef"} {
		for at := range len(s) {
			holdNone(t, s[:at])
			holdNone(t, s[at+1:])
			for b := range 256 {
				holdGet(t, s[:at]+string([]byte{byte(b)})+s[at+1:])
				holdNone(t, s[:at]+string([]byte{byte(b)})+s[at:])
			}
		}
	}
}

// holdGet holds Get of a text of eighteen bytes against the library.
func holdGet(t *testing.T, s string) {
	u, err := strconv.ParseUint(s[2:], 16, 64)
	want := int64(u)
	is := err == nil && words(want) == s && (want == nan || !toldAsNaN(want))
	if !is {
		want = 0
	}
	if n, ok := flo.Get(s); n != want || ok != is {
		t.Errorf("%q %x %v", s, n, ok)
	}
}
