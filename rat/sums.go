package rat

import (
	"samphire/api"
	"samphire/nat"
)

// Cmp: which one is less.
func Cmp(a, b api.Rat) (int, api.Errno) {
	if !Right(a) || !Right(b) {
		return 0, api.ErrArg
	}
	left, right, e := crossed(a, b)
	if e != api.OK {
		return 0, e
	}
	return nat.Cmp(left, right), api.OK
}

// Add: the sum.
func Add(a, b api.Rat) (api.Rat, api.Errno) { return joined(a, b, nat.Add) }

// Sub: the difference.
func Sub(a, b api.Rat) (api.Rat, api.Errno) { return joined(a, b, nat.Sub) }

// Mul: the product.
func Mul(a, b api.Rat) (api.Rat, api.Errno) {
	if !Right(a) || !Right(b) {
		return api.Rat{}, api.ErrArg
	}
	num, den, e := products(a.Num, b.Num, a.Den, b.Den)
	if e != api.OK {
		return api.Rat{}, e
	}
	return reduced(num, den), api.OK
}

// Div: the quotient.
func Div(a, b api.Rat) (api.Rat, api.Errno) {
	if !Right(a) || !Right(b) {
		return api.Rat{}, api.ErrArg
	}
	if len(b.Num) == 0 {
		return api.Rat{}, api.ErrZero
	}
	num, den, e := crossed(a, b)
	if e != api.OK {
		return api.Rat{}, e
	}
	return reduced(num, den), api.OK
}

// joined has nothing reduced ahead of the end: what is too big on the way is an ErrBig, even where
// the answer itself would not be, and even where a difference would be below 0.
func joined(a, b api.Rat, join func(x, y api.Nat) (api.Nat, api.Errno)) (api.Rat, api.Errno) {
	if !Right(a) || !Right(b) {
		return api.Rat{}, api.ErrArg
	}
	den, e := nat.Mul(a.Den, b.Den)
	if e != api.OK {
		return api.Rat{}, e
	}
	left, right, e := crossed(a, b)
	if e != api.OK {
		return api.Rat{}, e
	}
	num, e := join(left, right)
	if e != api.OK {
		return api.Rat{}, e
	}
	return reduced(num, den), api.OK
}

// crossed are the Nums that a and b would have over the Dens' product; the first one over the second
// one is the quotient.
func crossed(a, b api.Rat) (api.Nat, api.Nat, api.Errno) {
	return products(a.Num, b.Den, b.Num, a.Den)
}

// products: a by b, and c by d.
func products(a, b, c, d api.Nat) (api.Nat, api.Nat, api.Errno) {
	first, e := nat.Mul(a, b)
	if e != api.OK {
		return nil, nil, e
	}
	second, e := nat.Mul(c, d)
	if e != api.OK {
		return nil, nil, e
	}
	return first, second, api.OK
}
