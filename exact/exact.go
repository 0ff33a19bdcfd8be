// Package exact multiplies and divides unsigned integers without loss. See doc/01-exact.md.
package exact

import (
	"math"
	"math/bits"

	"customs/api"
)

// Mode is a rounding mode.
type Mode int

// The rounding modes.
const (
	Down Mode = iota
	Up
	HalfUp
	HalfEven
)

// Wide is the number Hi * 2^64 + Lo.
type Wide struct{ Hi, Lo uint64 }

// Mul returns a * b (P1.1).
func Mul(a, b uint64) Wide {
	hi, lo := bits.Mul64(a, b)
	return Wide{Hi: hi, Lo: lo}
}

// Add returns a + b, or ErrOverflow from 2^128 on (P1.1).
func Add(a, b Wide) (Wide, api.Errno) {
	lo, carry := bits.Add64(a.Lo, b.Lo, 0)
	hi, carry := bits.Add64(a.Hi, b.Hi, carry)
	if carry != 0 {
		return Wide{}, api.ErrOverflow
	}
	return Wide{Hi: hi, Lo: lo}, api.OK
}

// CompareWide returns -1, 0 or 1 if a is less than, equal to or greater than b (P1.1).
func CompareWide(a, b Wide) int {
	if a.Hi != b.Hi {
		return compareWords(a.Hi, b.Hi)
	}
	return compareWords(a.Lo, b.Lo)
}

// Div returns w / c, rounded as m says (P1.2).
func Div(w Wide, c uint64, m Mode) (uint64, api.Errno) {
	if c == 0 || m < Down || m > HalfEven {
		return 0, api.ErrRange
	}
	// The quotient is 2^64 or more exactly if w.Hi >= c, and bits.Div64 would panic.
	if w.Hi >= c {
		return 0, api.ErrOverflow
	}
	q, r := bits.Div64(w.Hi, w.Lo, c)
	if !roundsUp(q, r, c, m) {
		return q, api.OK
	}
	if q == math.MaxUint64 {
		return 0, api.ErrOverflow
	}
	return q + 1, api.OK
}

// MulDiv returns a * b / c, rounded as m says (P1.2).
func MulDiv(a, b, c uint64, m Mode) (uint64, api.Errno) {
	return Div(Mul(a, b), c, m)
}

// MulMod returns the remainder of a * b divided by c, or 0 if c is 0 (P1.2).
func MulMod(a, b, c uint64) uint64 {
	if c == 0 {
		return 0
	}
	w := Mul(a, b)
	return bits.Rem64(w.Hi, w.Lo, c)
}

// Compare returns -1, 0 or 1 if a / b is less than, equal to or greater than c / d (P1.3).
func Compare(a, b, c, d uint64) int {
	return CompareWide(Mul(a, denominator(d)), Mul(c, denominator(b)))
}

// Gcd returns the greatest common divisor of a and b (P1.3).
func Gcd(a, b uint64) uint64 {
	for b != 0 {
		a, b = b, a%b
	}
	return a
}

// Reduce returns a / b in lowest terms (P1.3).
func Reduce(a, b uint64) (uint64, uint64) {
	b = denominator(b)
	// Never 0, as b is not; for a = 0 it is b, which yields 0 and 1.
	g := Gcd(a, b)
	return a / g, b / g
}

func compareWords(a, b uint64) int {
	switch {
	case a < b:
		return -1
	case a > b:
		return 1
	}
	return 0
}

// roundsUp tells whether the quotient q with the remainder r < c is rounded to q + 1.
func roundsUp(q, r, c uint64, m Mode) bool {
	// r is held against c - r, because 2 * r may be above 2^64.
	half := compareWords(r, c-r)
	switch m {
	case Up:
		return r != 0
	case HalfUp:
		return half >= 0
	case HalfEven:
		return half > 0 || half == 0 && q%2 == 1
	}
	return false
}

// denominator counts a denominator 0 as 1.
func denominator(n uint64) uint64 {
	if n == 0 {
		return 1
	}
	return n
}
