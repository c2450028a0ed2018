package approx_test

import (
	"math"
	"math/big"
	"testing"

	"samphire/api"
	"samphire/approx"
)

// P4.3

// errorBig is what the document asks for, word by word, in numbers that can't be too big.
func errorBig(a *big.Rat) (api.Rat, api.Errno) {
	f := nearest(a)
	if math.IsInf(f, 1) {
		return api.Rat{}, api.ErrArg
	}
	near := valueOf(math.Float64bits(f))
	left := new(big.Int).Mul(a.Num(), near.Denom())
	right := new(big.Int).Mul(near.Num(), a.Denom())
	if tooBig(left) || tooBig(right) {
		return api.Rat{}, api.ErrBig
	}
	if left.Cmp(right) == 0 {
		return fromRat(new(big.Rat)), api.OK
	}
	if tooBig(new(big.Int).Mul(a.Denom(), near.Denom())) {
		return api.Rat{}, api.ErrBig
	}
	return fromRat(new(big.Rat).Abs(less(a, near))), api.OK
}

func checkError(t *testing.T, a *big.Rat, want api.Rat, wantE api.Errno) {
	t.Helper()
	got, e := approx.Error(fromRat(a))
	if e != wantE || !equal(got, want) {
		t.Fatalf("Error(%v): %v, %d, not %v, %d", a, got, e, want, wantE)
	}
}

func TestError(t *testing.T) {
	for _, c := range []struct{ a, want *big.Rat }{
		{big.NewRat(0, 1), big.NewRat(0, 1)},
		{big.NewRat(1, 1), big.NewRat(0, 1)},
		{big.NewRat(7, 2), big.NewRat(0, 1)},
		// The float64 is the lesser one, and the greater one.
		{big.NewRat(1, 3), new(big.Rat).Mul(big.NewRat(1, 3), times(1, -54))},
		{big.NewRat(1, 10), new(big.Rat).Mul(big.NewRat(1, 5), times(1, -55))},
		{big.NewRat(1<<53+1, 1), big.NewRat(1, 1)},
		{big.NewRat(1<<53+3, 1), big.NewRat(1, 1)},
		{big.NewRat(1<<54+1, 1), big.NewRat(1, 1)},
		// The float64 is 0.
		{times(1, -1075), times(1, -1075)},
		{times(1, -2047), times(1, -2047)},
		{new(big.Rat).Inv(fromNat(most())), new(big.Rat).Inv(fromNat(most()))},
		// just below half a step above the greatest one
		{less(less(times(1, 1024), times(1, 970)), big.NewRat(1, 1)), less(times(1, 970), big.NewRat(1, 1))},
		{less(times(1, 1024), times(1, 971)), big.NewRat(0, 1)},
	} {
		checkError(t, c.a, fromRat(c.want), api.OK)
	}
}

func TestErrorOfAll(t *testing.T) {
	told := map[api.Errno]int{}
	eachFraction(func(a *big.Rat) {
		want, e := errorBig(a)
		checkError(t, a, want, e)
		told[e]++
	})
	for _, e := range []api.Errno{api.OK, api.ErrArg, api.ErrBig} {
		if told[e] == 0 {
			t.Errorf("no fraction here brings out %d", e)
		}
	}
}

// What Cmp tells to be equal is no difference, even where the Dens' product would be too big.
func TestErrorOfWhatIsExact(t *testing.T) {
	zero := fromRat(new(big.Rat))
	for _, bits := range edgeBits() {
		checkError(t, valueOf(bits), zero, api.OK)
	}
	checkError(t, times(1, -1024), zero, api.OK)
	checkError(t, times(1, -1074), zero, api.OK)
	checkError(t, times(1<<52-1, -1074), zero, api.OK)
}

func TestErrorOfTooBig(t *testing.T) {
	for _, c := range []struct {
		a *big.Rat
		e api.Errno
	}{
		// The Dens' product alone: 5 of 2^-1075 are told by 2^-1073.
		{times(5, -1075), api.ErrBig},
		{times(3, -1075), api.ErrBig},
		// The float64 is over 2^52, which fits with 2^1995 in 64 limbs, and not with 2^1996.
		{plus(plus(times(1, 0), times(1, -52)), times(1, -1995)), api.OK},
		{plus(plus(times(1, 0), times(1, -52)), times(1, -1996)), api.ErrBig},
		// The float64 is 2, and Cmp's second product alone 2^2047, and 2^2048.
		{less(times(2, 0), times(1, -2046)), api.OK},
		{less(times(2, 0), times(1, -2047)), api.ErrBig},
		// That it is infinite is told ahead.
		{new(big.Rat).SetFrac(toBig(most()), big.NewInt(7)), api.ErrArg},
	} {
		want, e := errorBig(c.a)
		if e != c.e {
			t.Fatalf("%v: %d by the model, not %d", c.a, e, c.e)
		}
		checkError(t, c.a, want, e)
	}
}

func TestErrorOfTheInfinite(t *testing.T) {
	edge := less(times(1, 1024), times(1, 970))
	for _, a := range []*big.Rat{edge, plus(edge, times(1, -900)), times(1, 1024), times(1, 2047), fromNat(most())} {
		checkError(t, a, api.Rat{}, api.ErrArg)
	}
}

func TestErrorOfWrong(t *testing.T) {
	for _, a := range wrong() {
		if got, e := approx.Error(a); e != api.ErrArg || !equal(got, api.Rat{}) {
			t.Errorf("Error(%v): %v, %d", a, got, e)
		}
	}
}

// R1: what is handed in stays as it was, and what is answered is new memory.

// spoil writes into all that a list could share with another one.
func spoil(a api.Nat) {
	a = a[:cap(a)]
	for i := range a {
		a[i] = 0xabcdef
	}
}

func TestNothingIsShared(t *testing.T) {
	list := wrong()
	for _, a := range edges() {
		list = append(list, fromRat(a))
	}
	for _, a := range list {
		was := copied(a)
		approx.Float(a)
		got, _ := approx.Error(a)
		den := copied(got).Den
		spoil(got.Num)
		if !equal(api.Rat{Den: got.Den}, api.Rat{Den: den}) {
			t.Fatalf("Error(%v): its Num and Den share memory", was)
		}
		spoil(got.Den)
		if !equal(a, was) {
			t.Fatalf("Error(%v): now %v", was, a)
		}
	}
}

func TestExactIsNew(t *testing.T) {
	for _, f := range []float64{0, 1, 0.5, 0.1, smallest, math.MaxFloat64} {
		a, _ := approx.Exact(f)
		was := copied(a)
		spoil(a.Num)
		if !equal(api.Rat{Den: a.Den}, api.Rat{Den: was.Den}) {
			t.Errorf("Exact(%v): its Num and Den share memory", f)
		}
		spoil(a.Den)
		if again, e := approx.Exact(f); e != api.OK || !equal(again, was) {
			t.Errorf("Exact(%v) once more: %v, %d, not %v", f, again, e, was)
		}
	}
}
