package approx_test

import (
	"math"
	"math/big"
	"slices"
	"testing"

	"samphire/api"
	"samphire/approx"
)

const smallest = math.SmallestNonzeroFloat64

// P4.1

func TestFloat(t *testing.T) {
	for _, c := range []struct {
		a    *big.Rat
		want float64
	}{
		{big.NewRat(0, 1), 0},
		{big.NewRat(1, 1), 1},
		{big.NewRat(1, 2), 0.5},
		{big.NewRat(7, 2), 3.5},
		{big.NewRat(1, 3), 0x1.5555555555555p-2},
		{big.NewRat(2, 3), 0x1.5555555555555p-1},
		{big.NewRat(1, 10), 0x1.999999999999ap-4},
		{big.NewRat(maxLimb, 7), 4294967295.0 / 7},
		{big.NewRat(math.MaxInt64, 1), 0x1p63},
		{times(1, 1023), 0x1p1023},
		{times(1, -1022), 0x1p-1022},
	} {
		checkFloat(t, fromRat(c.a), c.want)
	}
	checkFloat(t, api.Rat{Num: api.Nat{}, Den: api.Nat{1}}, 0)
}

func TestFloatIsTheNearest(t *testing.T) {
	eachFraction(func(a *big.Rat) { checkFloat(t, fromRat(a), nearest(a)) })
}

// Of small numbers the machine's own division is the nearest one.
func TestFloatOfAllSmallOnes(t *testing.T) {
	for num := range int64(60) {
		for den := int64(1); den < 60; den++ {
			checkFloat(t, fromRat(big.NewRat(num, den)), float64(num)/float64(den))
		}
	}
}

func TestFloatOfTheLeast(t *testing.T) {
	tiny := times(1, -2000)
	for _, c := range []struct {
		a    *big.Rat
		want float64
	}{
		{times(1, -1073), 2 * smallest},
		{times(1, -1074), smallest},
		// Half of the smallest one is as near to 0, whose last bit is 0.
		{times(1, -1075), 0},
		{plus(times(1, -1075), tiny), smallest},
		{less(times(1, -1075), tiny), 0},
		{times(1, -1076), 0},
		{times(3, -1076), smallest},
		{times(1, -1100), 0},
		{times(1, -2047), 0},
		{new(big.Rat).Inv(fromNat(most())), 0},
		// Half way between others below 2^-1022
		{times(3, -1075), 2 * smallest},
		{less(times(3, -1075), tiny), smallest},
		{times(5, -1075), 2 * smallest},
		{plus(times(5, -1075), tiny), 3 * smallest},
		{times(7, -1075), 4 * smallest},
	} {
		checkFloat(t, fromRat(c.a), c.want)
	}
}

// The spacing is 2^-1074 up to 2^-1021, and doubles at each power of 2 from there on.
func TestFloatWhereTheSpacingChanges(t *testing.T) {
	tiny := times(1, -2000)
	half := times(1, -1075)
	first := times(1, -1022)
	for _, c := range []struct {
		a    *big.Rat
		want float64
	}{
		// The last one below 2^-1022 ends with a 1: half way is told by 2^-1022.
		{less(first, half), 0x1p-1022},
		{less(less(first, half), tiny), 0x1p-1022 - smallest},
		{plus(first, half), 0x1p-1022},
		{plus(plus(first, half), tiny), 0x1p-1022 + smallest},
		{less(times(1, -1021), half), 0x1p-1021},
		{plus(times(1, -1021), half), 0x1p-1021},
		{plus(times(1, -1021), times(3, -1075)), 0x1p-1021 + 2*smallest},
		{plus(times(1, -1021), times(1, -1074)), 0x1p-1021},
		{plus(plus(times(1, -1021), times(1, -1074)), tiny), 0x1p-1021 + 2*smallest},
		{less(times(1, 0), times(1, -54)), 1},
		{less(less(times(1, 0), times(1, -54)), tiny), 1 - 0x1p-53},
		{plus(times(1, 0), times(1, -53)), 1},
		{plus(plus(times(1, 0), times(1, -53)), tiny), 1 + 0x1p-52},
		{plus(times(1, 0), times(3, -53)), 1 + 0x1p-51},
	} {
		checkFloat(t, fromRat(c.a), c.want)
	}
}

func TestFloatOfTheGreatest(t *testing.T) {
	tiny := times(1, -900)
	last := less(times(1, 1024), times(1, 971))
	edge := less(times(1, 1024), times(1, 970))
	for _, c := range []struct {
		a    *big.Rat
		want float64
	}{
		{last, math.MaxFloat64},
		{plus(last, tiny), math.MaxFloat64},
		{less(last, times(1, 969)), math.MaxFloat64},
		// Half a step above the greatest one, 2^1024 is as near, and ends with a 0.
		{less(edge, tiny), math.MaxFloat64},
		{less(edge, big.NewRat(1, 1)), math.MaxFloat64},
		{edge, math.Inf(1)},
		{plus(edge, tiny), math.Inf(1)},
		{less(times(1, 1024), tiny), math.Inf(1)},
		{times(1, 1024), math.Inf(1)},
		{plus(times(1, 1024), tiny), math.Inf(1)},
		// What lies above 2^1024 is infinite too, and never what is no number.
		{plus(times(1, 1024), times(1, 972)), math.Inf(1)},
		{times(3, 1023), math.Inf(1)},
		{less(times(1, 1025), big.NewRat(1, 1)), math.Inf(1)},
		{times(1, 1025), math.Inf(1)},
		{times(3, 1024), math.Inf(1)},
		{times(1, 2047), math.Inf(1)},
		{fromNat(most()), math.Inf(1)},
	} {
		checkFloat(t, fromRat(c.a), c.want)
	}
}

func TestFloatOfWholeNumbers(t *testing.T) {
	for _, c := range []struct {
		n    uint64
		want float64
	}{
		{1<<52 + 1, 0x1p52 + 1},
		{1<<53 - 1, 0x1p53 - 1},
		{1 << 53, 0x1p53},
		{1<<53 + 1, 0x1p53},
		{1<<53 + 2, 0x1p53 + 2},
		{1<<53 + 3, 0x1p53 + 4},
		{1<<54 - 1, 0x1p54},
		{1<<54 - 2, 0x1p54 - 2},
		{1<<54 + 2, 0x1p54},
		{1<<54 + 3, 0x1p54 + 4},
		{1<<54 + 6, 0x1p54 + 8},
		{1<<64 - 1025, 0x1p64 - 2048},
		{1<<64 - 1024, 0x1p64},
		{1<<64 - 1, 0x1p64},
	} {
		checkFloat(t, fromRat(new(big.Rat).SetInt(new(big.Int).SetUint64(c.n))), c.want)
	}
}

// A single bit at the far end decides, however far it is.
func TestFloatByTheLastBit(t *testing.T) {
	for power := 55; power < 1990; power += 7 {
		half := plus(times(1, 53), big.NewRat(1, 1))
		checkFloat(t, fromRat(half), 0x1p53)
		checkFloat(t, fromRat(plus(half, times(1, -power))), 0x1p53+2)
		checkFloat(t, fromRat(less(half, times(1, -power))), 0x1p53)
	}
}

// Naturals of all 64 limbs have no room to be shifted up.
func TestFloatOfFullLimbs(t *testing.T) {
	greatest := toBig(most())
	for n := range int64(70) {
		lesser := new(big.Int).Sub(greatest, big.NewInt(n))
		for _, other := range []*big.Int{greatest, new(big.Int).Rsh(greatest, 1), new(big.Int).Rsh(greatest, uint(n))} {
			for _, a := range []*big.Rat{
				new(big.Rat).SetFrac(lesser, other),
				new(big.Rat).SetFrac(other, lesser),
			} {
				checkFloat(t, fromRat(a), nearest(a))
			}
		}
	}
}

func TestFloatOfWrong(t *testing.T) {
	for _, a := range wrong() {
		if f, e := approx.Float(a); !sameBits(f, 0) || e != api.ErrArg {
			t.Errorf("Float(%v): %v, %d", a, f, e)
		}
	}
}

// P4.4

func TestExactHasItsFloat(t *testing.T) {
	list := edgeBits()
	m := mix(2)
	for range 1000 {
		list = append(list, m.bits())
	}
	for _, bits := range list {
		f := math.Float64frombits(bits)
		a, e := approx.Exact(f)
		if e != api.OK {
			t.Fatalf("Exact(%v): %d", f, e)
		}
		checkFloat(t, a, f)
	}
}

func TestGreaterHasNoLesserFloat(t *testing.T) {
	var list []*big.Rat
	eachFraction(func(a *big.Rat) { list = append(list, a) })
	slices.SortFunc(list, func(a, b *big.Rat) int { return a.Cmp(b) })
	var before float64
	for _, a := range list {
		f, e := approx.Float(fromRat(a))
		if e != api.OK || f < before || math.IsNaN(f) {
			t.Fatalf("Float(%v): %v, %d, and %v of a lesser one", a, f, e, before)
		}
		before = f
	}
}
