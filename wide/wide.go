// Package wide is layer 1: see shared/doc/01-wide.md.
package wide

import (
	"math/bits"

	"abacist/api"
)

// wordBits is how many bits each half has.
const wordBits = 64

// textDigits is how many digits 2^128 - 1 has: no number has more.
const textDigits = 39

// Mul is a product.
func Mul(a, b uint64) api.Wide {
	hi, lo := bits.Mul64(a, b)
	return api.Wide{Hi: hi, Lo: lo}
}

// Add is a sum, and its carry.
func Add(a, b api.Wide) (s api.Wide, carry uint64) {
	lo, c := bits.Add64(a.Lo, b.Lo, 0)
	hi, carry := bits.Add64(a.Hi, b.Hi, c)
	return api.Wide{Hi: hi, Lo: lo}, carry
}

// Sub is a difference, and its borrow.
func Sub(a, b api.Wide) (d api.Wide, borrow uint64) {
	lo, c := bits.Sub64(a.Lo, b.Lo, 0)
	hi, borrow := bits.Sub64(a.Hi, b.Hi, c)
	return api.Wide{Hi: hi, Lo: lo}, borrow
}

// Sum is the sum of all.
func Sum(l ...api.Wide) (s api.Wide) {
	for _, a := range l {
		s, _ = Add(s, a)
	}
	return s
}

// Compare tells which one is greater.
func Compare(a, b api.Wide) int {
	if a == b {
		return 0
	}
	if a.Hi < b.Hi || a.Hi == b.Hi && a.Lo < b.Lo {
		return -1
	}
	return 1
}

// Shl is a number times a power of two.
func Shl(a api.Wide, n int) api.Wide {
	switch {
	case n <= 0: // a shift by a number below 0 would panic
		return a
	case n < wordBits:
		return api.Wide{Hi: a.Hi<<n | a.Lo>>(wordBits-n), Lo: a.Lo << n}
	default: // from 128 on nothing is left of a.Lo
		return api.Wide{Hi: a.Lo << (n - wordBits)}
	}
}

// Shr is a number divided by a power of two.
func Shr(a api.Wide, n int) api.Wide {
	switch {
	case n <= 0: // a shift by a number below 0 would panic
		return a
	case n < wordBits:
		return api.Wide{Hi: a.Hi >> n, Lo: a.Lo>>n | a.Hi<<(wordBits-n)}
	default: // from 128 on nothing is left of a.Hi
		return api.Wide{Lo: a.Hi >> (n - wordBits)}
	}
}

// Len is how many bits a number has.
func Len(a api.Wide) int {
	if a.Hi != 0 {
		return wordBits + bits.Len64(a.Hi)
	}
	return bits.Len64(a.Lo)
}

// Rem is the quotient and the rest.
func Rem(a api.Wide, m uint64) (q api.Wide, r uint64, e api.Errno) {
	if m == 0 {
		return api.Wide{}, 0, api.ErrZero
	}
	// bits.Div64 panics unless its upper half is below m, so that half is divided first.
	q.Hi = a.Hi / m
	q.Lo, r = bits.Div64(a.Hi%m, a.Lo, m)
	return q, r, api.OK
}

// Text is a number's decimal digits.
func Text(a api.Wide) string {
	if a == (api.Wide{}) {
		return "0"
	}
	var digits [textDigits]byte
	at := textDigits
	for a != (api.Wide{}) {
		var r uint64
		a, r, _ = Rem(a, 10)
		at--
		digits[at] = '0' + byte(r)
	}
	return string(digits[at:])
}
