package approx

import (
	"math"

	"samphire/api"
	"samphire/nat"
)

// A float64 is a whole number of at most 53 bits times 2 to its unit.
const (
	storedBits   = 52 // of those 53: the first one is not written, but follows from the unit
	leastUnit    = -1074
	greatestUnit = 971
	limbBits     = 32
)

// parts asks for an f above 0 that is not infinite: f is the digits times 2 to the unit.
func parts(f float64) (uint64, int) {
	bits := math.Float64bits(f)
	stored := bits & (1<<storedBits - 1)
	step := int(bits >> storedBits)
	// The lowest two steps have one unit: numbers without a first bit, and those that have it.
	if step == 0 {
		return stored, leastUnit
	}
	return stored | 1<<storedBits, leastUnit + step - 1
}

// leading asks for a fraction above 0. It tells its first 54 binary digits, and behind them a 1 if
// anything is left of it, else a 0: rounded can't tell that, times 2 to the exponent, from the fraction.
func leading(a api.Rat) (uint64, int) {
	exponent := nat.Bits(a.Num) - nat.Bits(a.Den)
	num, den := shifted(a.Num, max(0, -exponent)), shifted(a.Den, max(0, exponent))
	// Both have as many bits now: den goes once, or not at all.
	whole, rest, _ := nat.Div(num, den)
	digits := uint64(len(whole))
	for digits>>(storedBits+1) == 0 {
		var digit uint64
		digit, rest = nextDigit(rest, den)
		digits = digits<<1 | digit
		exponent--
	}
	digits <<= 1
	if len(rest) > 0 {
		digits |= 1
	}
	return digits, exponent - 1
}

// nextDigit asks for a rest below den. It tells how often den goes in twice the rest, and what is left.
// Twice the rest may be too big for layer 2: what the rest lacks of den stands in for it.
func nextDigit(rest, den api.Nat) (uint64, api.Nat) {
	lack, _ := nat.Sub(den, rest)
	if nat.Cmp(rest, lack) < 0 {
		twice, _ := nat.Add(rest, rest)
		return 0, twice
	}
	left, _ := nat.Sub(rest, lack)
	return 1, left
}

// rounded asks for what leading tells, of which at least the last two digits are dropped.
func rounded(digits uint64, exponent int) float64 {
	unit := max(exponent+2, leastUnit)
	if unit > greatestUnit {
		return math.Inf(1)
	}
	// Of a number that would lose all its digits, and more, nothing is left at 63 either.
	drop := min(unit-exponent, 63)
	kept, rest, half := digits>>drop, digits&(1<<drop-1), uint64(1)<<(drop-1)
	if rest > half || rest == half && kept%2 == 1 {
		kept++
	}
	// The first bit of 53, and a carry out of them, count the step up: to the infinite one's bits too.
	return math.Float64frombits(uint64(unit-leastUnit)<<storedBits + kept)
}

// shifted asks for an answer of no more limbs than a natural may have.
func shifted(a api.Nat, by int) api.Nat {
	power := make(api.Nat, by/limbBits+1)
	power[by/limbBits] = 1 << (by % limbBits)
	s, _ := nat.Mul(a, power)
	return s
}
