package nat

import (
	"math/bits"

	"samphire/api"
)

// Add: the sum.
func Add(a, b api.Nat) (api.Nat, api.Errno) {
	if !Right(a) || !Right(b) {
		return nil, api.ErrArg
	}
	return fitting(sum(a, b))
}

// Sub: the difference.
func Sub(a, b api.Nat) (api.Nat, api.Errno) {
	if !Right(a) || !Right(b) || Cmp(a, b) < 0 {
		return nil, api.ErrArg
	}
	return difference(a, b), api.OK
}

// Mul: the product.
func Mul(a, b api.Nat) (api.Nat, api.Errno) {
	if !Right(a) || !Right(b) {
		return nil, api.ErrArg
	}
	return fitting(product(a, b))
}

// fitting asks for limbs that are trimmed.
func fitting(a api.Nat) (api.Nat, api.Errno) {
	if len(a) > api.MaxLimbs {
		return nil, api.ErrBig
	}
	return a, api.OK
}

// sum may have one limb more than a natural may.
func sum(a, b api.Nat) api.Nat {
	if len(a) < len(b) {
		a, b = b, a
	}
	s := make(api.Nat, len(a)+1)
	s[len(a)] = addInto(s, a, b)
	return trim(s)
}

// addInto writes a and b into s, as many limbs as a has, which are no fewer than b's. It tells the carry.
func addInto(s, a, b api.Nat) uint32 {
	var carry uint32
	for i := range b {
		s[i], carry = bits.Add32(a[i], b[i], carry)
	}
	for i := len(b); i < len(a); i++ {
		s[i], carry = bits.Add32(a[i], 0, carry)
	}
	return carry
}

// difference asks for an a that is no less than b.
func difference(a, b api.Nat) api.Nat {
	d := make(api.Nat, len(a))
	var borrow uint32
	for i := range b {
		d[i], borrow = bits.Sub32(a[i], b[i], borrow)
	}
	for i := len(b); i < len(a); i++ {
		d[i], borrow = bits.Sub32(a[i], 0, borrow)
	}
	return trim(d)
}

// product may have up to twice as many limbs as a natural may.
func product(a, b api.Nat) api.Nat {
	p := make(api.Nat, len(a)+len(b))
	for i, x := range a {
		var carry uint64
		for j, y := range b {
			// The greatest limbs make just 2^64 - 1 here.
			t := uint64(x)*uint64(y) + uint64(p[i+j]) + carry
			p[i+j], carry = uint32(t), t>>limbBits
		}
		p[i+len(b)] = uint32(carry)
	}
	return trim(p)
}
