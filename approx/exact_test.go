package approx_test

import (
	"math"
	"math/big"
	"testing"

	"samphire/api"
	"samphire/approx"
	"samphire/rat"
)

// P4.2

func checkExact(t *testing.T, f float64, want *big.Rat) {
	t.Helper()
	a, e := approx.Exact(f)
	if e != api.OK || !equal(a, fromRat(want)) || !rat.Right(a) {
		t.Fatalf("Exact(%v): %v, %d, not %v", f, a, e, want)
	}
}

func TestExact(t *testing.T) {
	for _, c := range []struct {
		f    float64
		want *big.Rat
	}{
		{0, big.NewRat(0, 1)},
		{1, big.NewRat(1, 1)},
		{2, big.NewRat(2, 1)},
		{3.5, big.NewRat(7, 2)},
		{0.75, big.NewRat(3, 4)},
		{0.1, big.NewRat(3602879701896397, 1<<55)},
		{0x1p32, times(1, 32)},
		{0x1p53 - 1, big.NewRat(1<<53-1, 1)},
		{0x1p53 + 2, big.NewRat(1<<53+2, 1)},
		{smallest, times(1, -1074)},
		{3 * smallest, times(3, -1074)},
		{4 * smallest, times(1, -1072)},
		{0x1p-1022 - smallest, times(1<<52-1, -1074)},
		{0x1p-1022, times(1, -1022)},
		{0x1p-1022 + smallest, times(1<<52+1, -1074)},
		{0x1p-1021 - smallest, times(1<<53-1, -1074)},
		{0x1p-1021, times(1, -1021)},
		{0x1p1023, times(1, 1023)},
		{math.MaxFloat64, times(1<<53-1, 971)},
	} {
		checkExact(t, c.f, c.want)
	}
}

func TestExactOfAll(t *testing.T) {
	for _, bits := range edgeBits() {
		checkExact(t, math.Float64frombits(bits), valueOf(bits))
	}
	m := mix(3)
	for range 2000 {
		bits := m.bits()
		checkExact(t, math.Float64frombits(bits), valueOf(bits))
	}
	for power := -1074; power <= 1023; power++ {
		checkExact(t, math.Ldexp(1, power), times(1, power))
	}
}

// R6
func TestExactOfZeroWithTheSign(t *testing.T) {
	checkExact(t, math.Copysign(0, -1), big.NewRat(0, 1))
	a, _ := approx.Exact(math.Copysign(0, -1))
	checkFloat(t, a, 0)
}

func TestExactOfWrong(t *testing.T) {
	for _, bits := range []uint64{
		// no numbers: quiet and not, with and without the sign, with other bits
		math.Float64bits(math.NaN()), infinite | 1, infinite | 1<<51, infinite | (1<<52 - 1),
		1<<63 | infinite | 1, 1<<63 | infinite | 1<<51, 1<<64 - 1,
		// the infinite ones
		infinite, 1<<63 | infinite,
		// below 0
		1<<63 | 1, 1<<63 | 1<<52, 1<<63 | (1<<52 - 1), 1<<63 | (infinite - 1),
		math.Float64bits(-1), math.Float64bits(-0.5), math.Float64bits(-3),
	} {
		f := math.Float64frombits(bits)
		if a, e := approx.Exact(f); e != api.ErrArg || !equal(a, api.Rat{}) {
			t.Errorf("Exact(%v, of %x): %v, %d", f, bits, a, e)
		}
	}
	for _, bits := range edgeBits() {
		if bits == 0 {
			continue
		}
		f := -math.Float64frombits(bits)
		if a, e := approx.Exact(f); e != api.ErrArg || !equal(a, api.Rat{}) {
			t.Errorf("Exact(%v): %v, %d", f, a, e)
		}
	}
}
