package nat

import (
	"math/bits"
	"slices"

	"samphire/api"
)

// maxLimb is the greatest limb.
const maxLimb = 1<<limbBits - 1

// Div: how often, and what is left.
func Div(a, b api.Nat) (api.Nat, api.Nat, api.Errno) {
	if !Right(a) || !Right(b) {
		return nil, nil, api.ErrArg
	}
	if len(b) == 0 {
		return nil, nil, api.ErrZero
	}
	q, r := divide(a, b)
	return q, r, api.OK
}

// Gcd: what goes in both.
func Gcd(a, b api.Nat) (api.Nat, api.Errno) {
	if !Right(a) || !Right(b) {
		return nil, api.ErrArg
	}
	// From two limbs on down the machine's own words do, and far faster.
	for len(b) > 2 {
		_, rest := divide(a, b)
		a, b = b, rest
	}
	if len(b) == 0 {
		return trim(slices.Clone(a)), api.OK
	}
	_, rest := divide(a, b)
	return Of(gcdWords(word(b), word(rest))), api.OK
}

func gcdWords(a, b uint64) uint64 {
	for b != 0 {
		a, b = b, a%b
	}
	return a
}

// word asks for at most two limbs.
func word(a api.Nat) uint64 {
	var n uint64
	for i, x := range a {
		n |= uint64(x) << (i * limbBits)
	}
	return n
}

// divide asks for a b that is not 0.
func divide(a, b api.Nat) (api.Nat, api.Nat) {
	if len(a) < len(b) {
		return nil, trim(slices.Clone(a))
	}
	if len(b) == 1 {
		q, r := divShort(a, b[0])
		return q, Of(uint64(r))
	}
	return divLong(a, b)
}

// divShort asks for a divisor that is not 0.
func divShort(a api.Nat, b uint32) (api.Nat, uint32) {
	q := make(api.Nat, len(a))
	var rest uint32
	for i := len(a) - 1; i >= 0; i-- {
		// What is left is below b: bits.Div32 would panic otherwise.
		q[i], rest = bits.Div32(rest, a[i], b)
	}
	return trim(q), rest
}

// divLong asks for a divisor of two limbs or more, and for an a of no fewer.
func divLong(a, b api.Nat) (api.Nat, api.Nat) {
	// With its highest bit set, the divisor's top limb makes good guesses.
	shift := bits.LeadingZeros32(b[len(b)-1])
	rest, by := shifted(a, shift), shifted(b, shift)[:len(b)]
	q := make(api.Nat, len(a)-len(b)+1)
	for i := len(q) - 1; i >= 0; i-- {
		q[i] = takeOut(rest[i:i+len(b)+1], by)
	}
	return trim(q), shiftedBack(rest[:len(b)], shift)
}

// shifted has one limb more than a.
func shifted(a api.Nat, shift int) api.Nat {
	s := make(api.Nat, len(a)+1)
	for i, x := range a {
		t := uint64(x) << shift
		s[i] |= uint32(t)
		s[i+1] = uint32(t >> limbBits)
	}
	return s
}

func shiftedBack(a api.Nat, shift int) api.Nat {
	s := make(api.Nat, len(a))
	var above uint64
	for i := len(a) - 1; i >= 0; i-- {
		t := above<<limbBits | uint64(a[i])
		s[i], above = uint32(t>>shift), t
	}
	return trim(s)
}

// takeOut takes b out of rest, in place, as often as it goes, and tells how often: less than 2^32 times,
// as the limbs of rest but the lowest one, which are as many as b's, are together below b.
func takeOut(rest, b api.Nat) uint32 {
	top := len(b) - 1
	guess := min((uint64(rest[top+1])<<limbBits|uint64(rest[top]))/uint64(b[top]), maxLimb)
	// The guess is never too small, and too great by 2 at most: what it took too much is given back.
	for below := takeTimes(rest, b, guess); below; guess-- {
		carry := addInto(rest, rest[:len(b)], b)
		rest[len(b)], carry = bits.Add32(rest[len(b)], 0, carry)
		below = carry == 0
	}
	return uint32(guess)
}

// takeTimes takes b so many times out of rest, in place, and tells whether that went below 0.
func takeTimes(rest, b api.Nat, times uint64) bool {
	var carry uint64
	var borrow uint32
	for i, x := range b {
		t := uint64(x)*times + carry
		rest[i], borrow = bits.Sub32(rest[i], uint32(t), borrow)
		carry = t >> limbBits
	}
	rest[len(b)], borrow = bits.Sub32(rest[len(b)], uint32(carry), borrow)
	return borrow != 0
}
