// Package num is layer 1: whole numbers of 64 bits with a sign, whose results go round.
package num

import (
	"lateen/api"
)

// longest is how many bytes the longest Put has: 19 digits, and a sign.
const longest = 20

// Is tells whether op is an instruction on whole numbers, from api.Add to api.Le.
func Is(op int) bool {
	return api.Add <= op && op <= api.Le
}

// Do answers what the instruction op makes of a and b, and whether it makes anything of them.
func Do(op int, a, b int64) (int64, bool) {
	switch op {
	case api.Add:
		return a + b, true
	case api.Sub:
		return a - b, true
	case api.Mul:
		return a * b, true
	case api.Div:
		if b != 0 {
			return a / b, true
		}
	case api.Rem:
		if b != 0 {
			return a % b, true
		}
	case api.And:
		return a & b, true
	case api.Or:
		return a | b, true
	case api.Xor:
		return a ^ b, true
	case api.Shl:
		return a << lowSix(b), true
	case api.Shr:
		return a >> lowSix(b), true
	case api.Eq:
		return truth(a == b), true
	case api.Ne:
		return truth(a != b), true
	case api.Lt:
		return truth(a < b), true
	case api.Le:
		return truth(a <= b), true
	}
	return 0, false
}

// lowSix has no sign, for a shift by a number below 0 panics.
func lowSix(b int64) uint64 {
	return uint64(b) & 63
}

func truth(holds bool) int64 {
	if holds {
		return 1
	}
	return 0
}

// Put answers n's decimal digits, with - ahead, if n is below 0.
func Put(n int64) string {
	var text [longest]byte
	at := len(text)
	rest := size(n)
	for {
		at--
		text[at] = byte('0' + rest%10)
		rest /= 10
		if rest == 0 {
			break
		}
	}
	if n < 0 {
		at--
		text[at] = '-'
	}
	return string(text[at:])
}

// size is n without its sign; it has none itself, for that of -2^63 is beyond the numbers that have one.
func size(n int64) uint64 {
	if n < 0 {
		return -uint64(n)
	}
	return uint64(n)
}

// Get answers the number whose Put s is, and whether there is one.
func Get(s string) (int64, bool) {
	if len(s) > longest {
		return 0, false
	}
	n := read(s)
	// Only one text is n's: this refuses all that read takes for n and isn't that, and what went round.
	if Put(n) != s {
		return 0, false
	}
	return n, true
}

// read takes each byte of s but a - ahead for a digit, whatever it is; of a number's Put it answers that number.
func read(s string) int64 {
	below := len(s) > 0 && s[0] == '-'
	if below {
		s = s[1:]
	}
	var n int64
	for i := 0; i < len(s); i++ {
		n = n*10 + int64(s[i]-'0')
	}
	if below {
		return -n
	}
	return n
}
