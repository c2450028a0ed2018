package rat_test

import (
	"math/big"

	"samphire/api"
)

// What the document asks for, word by word, in numbers that can't be too big.

func reducedBig(num, den *big.Int) (api.Rat, api.Errno) {
	common := new(big.Int).GCD(nil, nil, num, den)
	return of(fromBig(new(big.Int).Div(num, common)), fromBig(new(big.Int).Div(den, common))), api.OK
}

func by(a, b api.Nat) *big.Int { return new(big.Int).Mul(toBig(a), toBig(b)) }

func cmpBig(a, b api.Rat) (int, api.Errno) {
	left, right := by(a.Num, b.Den), by(b.Num, a.Den)
	if tooBig(left) || tooBig(right) {
		return 0, api.ErrBig
	}
	return left.Cmp(right), api.OK
}

func addBig(a, b api.Rat) (api.Rat, api.Errno) {
	dens, left, right := by(a.Den, b.Den), by(a.Num, b.Den), by(b.Num, a.Den)
	sum := new(big.Int).Add(left, right)
	if tooBig(dens) || tooBig(left) || tooBig(right) || tooBig(sum) {
		return api.Rat{}, api.ErrBig
	}
	return reducedBig(sum, dens)
}

func subBig(a, b api.Rat) (api.Rat, api.Errno) {
	dens, left, right := by(a.Den, b.Den), by(a.Num, b.Den), by(b.Num, a.Den)
	if tooBig(dens) || tooBig(left) || tooBig(right) {
		return api.Rat{}, api.ErrBig
	}
	less := new(big.Int).Sub(left, right)
	if less.Sign() < 0 {
		return api.Rat{}, api.ErrArg
	}
	return reducedBig(less, dens)
}

func mulBig(a, b api.Rat) (api.Rat, api.Errno) {
	nums, dens := by(a.Num, b.Num), by(a.Den, b.Den)
	if tooBig(nums) || tooBig(dens) {
		return api.Rat{}, api.ErrBig
	}
	return reducedBig(nums, dens)
}

func divBig(a, b api.Rat) (api.Rat, api.Errno) {
	if len(b.Num) == 0 {
		return api.Rat{}, api.ErrZero
	}
	num, den := by(a.Num, b.Den), by(a.Den, b.Num)
	if tooBig(num) || tooBig(den) {
		return api.Rat{}, api.ErrBig
	}
	return reducedBig(num, den)
}
