package rat_test

import (
	"testing"

	"samphire/api"
	"samphire/rat"
)

// P3.2

func TestCmp(t *testing.T) {
	for _, c := range []struct {
		a, b api.Rat
		want int
	}{
		{small(0, 1), small(0, 1), 0},
		{small(0, 1), small(1, 9), -1},
		{small(1, 2), small(1, 3), 1},
		{small(2, 3), small(3, 4), -1},
		{small(5, 6), small(5, 6), 0},
		{of(most(), api.Nat{1}), of(most(), api.Nat{1}), 0},
		{of(most(), api.Nat{1}), small(1, 1), 1},
		{of(api.Nat{1}, most()), small(1, 1), -1},
		{of(power(2047), api.Nat{1}), of(most(), api.Nat{1}), -1},
	} {
		if got, e := rat.Cmp(c.a, c.b); got != c.want || e != api.OK {
			t.Errorf("Cmp(%v, %v): %d, %d, not %d", c.a, c.b, got, e, c.want)
		}
	}
	eachPair(func(a, b api.Rat) {
		want, wantE := cmpBig(a, b)
		if got, e := rat.Cmp(a, b); got != want || e != wantE {
			t.Fatalf("Cmp(%v, %v): %d, %d, not %d, %d", a, b, got, e, want, wantE)
		}
	})
}

func TestCmpOfTooBig(t *testing.T) {
	for _, c := range []struct {
		a, b api.Rat
		e    api.Errno
	}{
		// a.Num by b.Den alone: 2^2047, and 2^2048
		{of(power(1024), api.Nat{1}), of(api.Nat{1}, power(1023)), api.OK},
		{of(power(1024), api.Nat{1}), of(api.Nat{1}, power(1024)), api.ErrBig},
		// b.Num by a.Den alone
		{of(api.Nat{1}, power(1023)), of(power(1024), api.Nat{1}), api.OK},
		{of(api.Nat{1}, power(1024)), of(power(1024), api.Nat{1}), api.ErrBig},
		// The Dens' product is not asked for here.
		{of(api.Nat{1}, power(2047)), of(api.Nat{1}, power(2047)), api.OK},
		{of(most(), api.Nat{1}), small(1, 2), api.ErrBig},
	} {
		got, e := rat.Cmp(c.a, c.b)
		if e != c.e || e != api.OK && got != 0 {
			t.Errorf("Cmp(%v, %v): %d, %d, not %d", c.a, c.b, got, e, c.e)
		}
	}
}

// told is a call of two, and what it is to answer.
type told struct {
	a, b, want api.Rat
	e          api.Errno
}

func checkAll(t *testing.T, name string, do call, list []told) {
	t.Helper()
	for _, c := range list {
		got, e := do(c.a, c.b)
		checkTold(t, name, c.a, c.b, got, e, c.want, c.e)
	}
}

func checkModel(t *testing.T, name string, do, model call) {
	t.Helper()
	eachPair(func(a, b api.Rat) {
		got, e := do(a, b)
		want, wantE := model(a, b)
		checkTold(t, name, a, b, got, e, want, wantE)
	})
}

func TestAdd(t *testing.T) {
	none := api.Rat{}
	checkAll(t, "Add", rat.Add, []told{
		{small(1, 2), small(1, 6), small(2, 3), api.OK},
		{small(0, 1), small(0, 1), small(0, 1), api.OK},
		{small(0, 1), small(5, 6), small(5, 6), api.OK},
		{small(5, 6), small(0, 1), small(5, 6), api.OK},
		{small(1, 2), small(1, 2), small(1, 1), api.OK},
		{small(3, 4), small(5, 6), small(19, 12), api.OK},
		// The sum alone, products fitting: 2^2048 less 1, and 2^2048
		{of(append(api.Nat{maxLimb - 1}, limbs(63, maxLimb)...), api.Nat{1}), small(1, 1), of(most(), api.Nat{1}), api.OK},
		{of(most(), api.Nat{1}), small(1, 1), none, api.ErrBig},
		{of(power(2047), api.Nat{1}), of(power(2047), api.Nat{1}), none, api.ErrBig},
		// The Dens' product alone: 2^2047, and 2^2048
		{of(api.Nat{1}, power(1023)), of(api.Nat{1}, power(1024)), of(api.Nat{3}, power(1024)), api.OK},
		{of(api.Nat{1}, power(1024)), of(api.Nat{1}, power(1024)), none, api.ErrBig},
		// a.Num by b.Den alone, and b.Num by a.Den alone
		{of(power(1024), api.Nat{1}), of(api.Nat{1}, power(1024)), none, api.ErrBig},
		{of(api.Nat{1}, power(1024)), of(power(1024), api.Nat{1}), none, api.ErrBig},
		{of(most(), api.Nat{1}), small(1, 2), none, api.ErrBig},
		{of(most(), api.Nat{1}), small(0, 1), of(most(), api.Nat{1}), api.OK},
	})
	checkModel(t, "Add", rat.Add, addBig)
}

func TestSub(t *testing.T) {
	none := api.Rat{}
	checkAll(t, "Sub", rat.Sub, []told{
		{small(2, 3), small(1, 6), small(1, 2), api.OK},
		{small(0, 1), small(0, 1), small(0, 1), api.OK},
		{small(5, 6), small(5, 6), small(0, 1), api.OK},
		{small(5, 6), small(3, 4), small(1, 12), api.OK},
		{small(5, 6), small(0, 1), small(5, 6), api.OK},
		{of(most(), api.Nat{1}), of(most(), api.Nat{1}), small(0, 1), api.OK},
		{of(power(2047), api.Nat{1}), of(power(2046), api.Nat{1}), of(power(2046), api.Nat{1}), api.OK},
		// below 0
		{small(3, 4), small(5, 6), none, api.ErrArg},
		{small(0, 1), of(api.Nat{1}, most()), none, api.ErrArg},
		{small(1, 1), of(most(), api.Nat{1}), none, api.ErrArg},
		{of(power(2047), api.Nat{1}), of(most(), api.Nat{1}), none, api.ErrArg},
		// Each product alone is too big.
		{of(api.Nat{3}, power(1024)), of(api.Nat{1}, power(1024)), none, api.ErrBig},
		{of(power(1024), api.Nat{1}), of(api.Nat{1}, power(1024)), none, api.ErrBig},
		{of(most(), api.Nat{1}), small(1, 2), none, api.ErrBig},
		{small(1, 2), of(most(), api.Nat{1}), none, api.ErrBig},
	})
	checkModel(t, "Sub", rat.Sub, subBig)
}

// The products come ahead of the difference: that one of them is too big is told, not that it is below 0.
func TestSubBelowZeroOfTooBig(t *testing.T) {
	none := api.Rat{}
	checkAll(t, "Sub", rat.Sub, []told{
		// the Dens' product, and that of b.Num by a.Den: 2^2047 fits
		{of(api.Nat{1}, power(1023)), of(api.Nat{3}, power(1024)), none, api.ErrArg},
		{of(api.Nat{1}, power(1024)), of(api.Nat{3}, power(1024)), none, api.ErrBig},
		{of(api.Nat{1}, power(1023)), of(power(1024), api.Nat{1}), none, api.ErrArg},
		{of(api.Nat{1}, power(1024)), of(power(1024), api.Nat{1}), none, api.ErrBig},
		{of(api.Nat{1}, most()), of(api.Nat{2}, most()), none, api.ErrBig},
		{small(1, 2), of(most(), api.Nat{1}), none, api.ErrBig},
	})
}

func TestMul(t *testing.T) {
	none := api.Rat{}
	checkAll(t, "Mul", rat.Mul, []told{
		{small(3, 4), small(5, 6), small(5, 8), api.OK},
		{small(2, 3), small(3, 2), small(1, 1), api.OK},
		{small(0, 1), small(0, 1), small(0, 1), api.OK},
		{small(0, 1), small(5, 6), small(0, 1), api.OK},
		{of(api.Nat{1}, most()), small(0, 1), small(0, 1), api.OK},
		{of(most(), api.Nat{1}), of(api.Nat{1}, most()), small(1, 1), api.OK},
		{of(most(), api.Nat{1}), small(1, 3), of(limbs(64, maxLimb/3), api.Nat{1}), api.OK},
		// The Nums' product alone, and the Dens' alone: 2^2047, and 2^2048
		{of(power(1023), api.Nat{1}), of(power(1024), api.Nat{1}), of(power(2047), api.Nat{1}), api.OK},
		{of(power(1024), api.Nat{1}), of(power(1024), api.Nat{1}), none, api.ErrBig},
		{of(api.Nat{1}, power(1023)), of(api.Nat{1}, power(1024)), of(api.Nat{1}, power(2047)), api.OK},
		{of(api.Nat{1}, power(1024)), of(api.Nat{1}, power(1024)), none, api.ErrBig},
		// Reduced it would be 1.
		{of(most(), power(2047)), of(power(2047), most()), none, api.ErrBig},
	})
	checkModel(t, "Mul", rat.Mul, mulBig)
}

func TestDiv(t *testing.T) {
	none := api.Rat{}
	checkAll(t, "Div", rat.Div, []told{
		{small(3, 4), small(5, 6), small(9, 10), api.OK},
		{small(2, 3), small(2, 3), small(1, 1), api.OK},
		{small(0, 1), small(5, 6), small(0, 1), api.OK},
		{small(0, 1), of(most(), api.Nat{1}), small(0, 1), api.OK},
		{small(1, 1), of(most(), api.Nat{1}), of(api.Nat{1}, most()), api.OK},
		{of(most(), api.Nat{1}), of(most(), api.Nat{1}), small(1, 1), api.OK},
		// a.Num by b.Den alone, and a.Den by b.Num alone: 2^2047, and 2^2048
		{of(power(1023), api.Nat{1}), of(api.Nat{1}, power(1024)), of(power(2047), api.Nat{1}), api.OK},
		{of(power(1024), api.Nat{1}), of(api.Nat{1}, power(1024)), none, api.ErrBig},
		{of(api.Nat{1}, power(1023)), of(power(1024), api.Nat{1}), of(api.Nat{1}, power(2047)), api.OK},
		{of(api.Nat{1}, power(1024)), of(power(1024), api.Nat{1}), none, api.ErrBig},
		// Reduced it would be 1.
		{of(most(), power(2047)), of(most(), power(2047)), none, api.ErrBig},
	})
	checkModel(t, "Div", rat.Div, divBig)
}

func TestDivByZero(t *testing.T) {
	for _, a := range edges() {
		for _, zero := range []api.Rat{small(0, 1), of(api.Nat{}, api.Nat{1})} {
			got, e := rat.Div(a, zero)
			checkTold(t, "Div", a, zero, got, e, api.Rat{}, api.ErrZero)
		}
	}
}
