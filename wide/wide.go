// Package wide is layer 1: see shared/doc/01-wide.md.
package wide

import (
	"math/bits"

	"samphire/api"
)

// maxDigits is how many decimal digits 2^128 - 1 has.
const maxDigits = 39

// Of: a number of 64 bits.
func Of(n uint64) api.U128 { return api.U128{Lo: n} }

// Cmp: which one is less.
func Cmp(a, b api.U128) int {
	if a.Hi != b.Hi {
		return compare(a.Hi, b.Hi)
	}
	return compare(a.Lo, b.Lo)
}

func compare(a, b uint64) int {
	switch {
	case a < b:
		return -1
	case a > b:
		return 1
	}
	return 0
}

// Add: the sum.
func Add(a, b api.U128) (api.U128, bool) {
	lo, carry := bits.Add64(a.Lo, b.Lo, 0)
	hi, carry := bits.Add64(a.Hi, b.Hi, carry)
	if carry != 0 {
		return api.U128{}, false
	}
	return api.U128{Hi: hi, Lo: lo}, true
}

// Sub: the difference.
func Sub(a, b api.U128) (api.U128, bool) {
	lo, borrow := bits.Sub64(a.Lo, b.Lo, 0)
	hi, borrow := bits.Sub64(a.Hi, b.Hi, borrow)
	if borrow != 0 {
		return api.U128{}, false
	}
	return api.U128{Hi: hi, Lo: lo}, true
}

// Full: the product of two numbers of 64 bits.
func Full(a, b uint64) api.U128 {
	hi, lo := bits.Mul64(a, b)
	return api.U128{Hi: hi, Lo: lo}
}

// Mul: the product.
func Mul(a, b api.U128) (api.U128, bool) {
	if a.Hi != 0 && b.Hi != 0 {
		return api.U128{}, false
	}
	// One of the Hi is 0, so one of these products is 0, and their sum can't carry.
	left, right := Full(a.Hi, b.Lo), Full(a.Lo, b.Hi)
	if left.Hi != 0 || right.Hi != 0 {
		return api.U128{}, false
	}
	return Add(Full(a.Lo, b.Lo), api.U128{Hi: left.Lo + right.Lo})
}

// Div: how often, and what is left.
func Div(a, b api.U128) (api.U128, api.U128, bool) {
	if b == (api.U128{}) {
		return api.U128{}, api.U128{}, false
	}
	if b.Hi == 0 {
		q, r := divShort(a, b.Lo)
		return q, Of(r), true
	}
	q, r := divLong(a, b)
	return Of(q), r, true
}

// divShort asks for a divisor that is not 0.
func divShort(a api.U128, b uint64) (api.U128, uint64) {
	// What is left of Hi is below b: bits.Div64 would panic otherwise.
	lo, rest := bits.Div64(a.Hi%b, a.Lo, b)
	return api.U128{Hi: a.Hi / b, Lo: lo}, rest
}

// divLong asks for a divisor from 2^64 on: what it tells is then below 2^64.
func divLong(a, b api.U128) (uint64, api.U128) {
	shift := bits.LeadingZeros64(b.Hi)
	top := b.Hi<<shift | b.Lo>>(64-shift)
	// Half of a has a Hi below 2^63, and top has its highest bit: bits.Div64 can't panic.
	guess, _ := bits.Div64(a.Hi>>1, a.Hi<<63|a.Lo>>1, top)
	guess >>= 63 - shift
	// The bits of b that top lacks can make the guess too great by 1, never by more.
	if guess > 0 {
		guess--
	}
	taken, _ := Mul(Of(guess), b)
	rest, _ := Sub(a, taken)
	if Cmp(rest, b) >= 0 {
		guess++
		rest, _ = Sub(rest, b)
	}
	return guess, rest
}

// Text: decimal digits.
func Text(a api.U128) string {
	var digits [maxDigits]byte
	at := maxDigits
	// The first digit is written even of 0, whose text is not empty.
	for at == maxDigits || a != (api.U128{}) {
		q, digit := divShort(a, 10)
		at--
		digits[at] = '0' + byte(digit)
		a = q
	}
	return string(digits[at:])
}

// Read: the number of a text.
func Read(s string) (api.U128, bool) {
	if s == "" || s[0] == '0' && len(s) > 1 {
		return api.U128{}, false
	}
	var n api.U128
	for i := range len(s) {
		next, ok := withDigit(n, s[i])
		if !ok {
			return api.U128{}, false
		}
		n = next
	}
	return n, true
}

func withDigit(n api.U128, c byte) (api.U128, bool) {
	if c < '0' || c > '9' {
		return api.U128{}, false
	}
	tenfold, ok := Mul(n, Of(10))
	if !ok {
		return api.U128{}, false
	}
	return Add(tenfold, Of(uint64(c-'0')))
}
