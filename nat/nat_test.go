package nat_test

import (
	"math/big"
	"slices"
	"testing"

	"samphire/api"
	"samphire/nat"
)

// P2.1

func TestRight(t *testing.T) {
	for _, a := range []api.Nat{nil, {}, {1}, {maxLimb}, {0, 1}, {0, 0, 0, 5}, most(), power(2047)} {
		if !nat.Right(a) {
			t.Errorf("Right(%v): false", a)
		}
	}
	for _, a := range wrong() {
		if nat.Right(a) {
			t.Errorf("Right(%v): true", a)
		}
	}
}

func TestOf(t *testing.T) {
	for _, c := range []struct {
		n    uint64
		want api.Nat
	}{
		{0, nil},
		{1, api.Nat{1}},
		{1<<31 + 1, api.Nat{1<<31 + 1}},
		{maxLimb, api.Nat{maxLimb}},
		{1 << 32, api.Nat{0, 1}},
		{1<<32 + 7, api.Nat{7, 1}},
		{1 << 63, api.Nat{0, 1 << 31}},
		{maxWord, api.Nat{maxLimb, maxLimb}},
	} {
		if got := nat.Of(c.n); !slices.Equal(got, c.want) {
			t.Errorf("Of(%d): %v", c.n, got)
		}
	}
}

func TestFrom(t *testing.T) {
	for _, c := range []struct {
		n    api.U128
		want api.Nat
	}{
		{api.U128{}, nil},
		{api.U128{Lo: 5}, api.Nat{5}},
		{api.U128{Lo: maxWord}, api.Nat{maxLimb, maxLimb}},
		{api.U128{Hi: 1}, api.Nat{0, 0, 1}},
		{api.U128{Hi: 1 << 32}, api.Nat{0, 0, 0, 1}},
		{api.U128{Hi: 4<<32 | 3, Lo: 2<<32 | 1}, api.Nat{1, 2, 3, 4}},
		{api.U128{Hi: maxWord, Lo: maxWord}, api.Nat{maxLimb, maxLimb, maxLimb, maxLimb}},
	} {
		if got := nat.From(c.n); !slices.Equal(got, c.want) {
			t.Errorf("From(%v): %v", c.n, got)
		}
	}
}

func TestCmp(t *testing.T) {
	for _, c := range []struct {
		a, b api.Nat
		want int
	}{
		{nil, nil, 0},
		{nil, api.Nat{}, 0},
		{nil, api.Nat{1}, -1},
		{api.Nat{1}, nil, 1},
		{api.Nat{1 << 31}, api.Nat{1}, 1},
		{api.Nat{maxLimb}, api.Nat{0, 1}, -1},
		{api.Nat{9, 1}, api.Nat{0, 2}, -1},
		{api.Nat{0, 2}, api.Nat{9, 1}, 1},
		{api.Nat{1, 5, 5}, api.Nat{2, 5, 5}, -1},
		{most(), most(), 0},
		{most(), power(2047), 1},
	} {
		if got := nat.Cmp(c.a, c.b); got != c.want {
			t.Errorf("Cmp(%v, %v): %d", c.a, c.b, got)
		}
	}
	eachPair(func(a, b api.Nat) {
		if got, want := nat.Cmp(a, b), toBig(a).Cmp(toBig(b)); got != want {
			t.Fatalf("Cmp(%v, %v): %d, not %d", a, b, got, want)
		}
	})
}

func TestCmpOfNoNatural(t *testing.T) {
	for _, bad := range wrong() {
		for _, other := range append(wrong(), nil, api.Nat{1}, most()) {
			if got := nat.Cmp(bad, other); got != 0 {
				t.Errorf("Cmp(%v, %v): %d", bad, other, got)
			}
			if got := nat.Cmp(other, bad); got != 0 {
				t.Errorf("Cmp(%v, %v): %d", other, bad, got)
			}
		}
	}
}

func TestBits(t *testing.T) {
	for bit := range 32 * api.MaxLimbs {
		if got := nat.Bits(power(bit)); got != bit+1 {
			t.Errorf("Bits of 2^%d: %d", bit, got)
		}
	}
	eachNumber(func(a api.Nat) {
		if len(a) > api.MaxLimbs {
			return
		}
		if got, want := nat.Bits(a), toBig(a).BitLen(); got != want {
			t.Fatalf("Bits(%v): %d, not %d", a, got, want)
		}
	})
	for _, a := range append(wrong(), nil) {
		if got := nat.Bits(a); got != 0 {
			t.Errorf("Bits(%v): %d", a, got)
		}
	}
}

func TestCallsOfNoNatural(t *testing.T) {
	checkWrong(t, "Add", nat.Add)
	checkWrong(t, "Sub", nat.Sub)
	checkWrong(t, "Mul", nat.Mul)
	checkWrong(t, "Gcd", nat.Gcd)
	// Div by 0 is an ErrZero only where both are naturals: the ErrArg is named first.
	checkWrong(t, "Div", func(a, b api.Nat) (api.Nat, api.Errno) {
		q, r, e := nat.Div(a, b)
		return append(q, r...), e
	})
	for _, a := range wrong() {
		if got := nat.Text(a); got != "" {
			t.Errorf("Text(%v): %q", a, got)
		}
	}
}

// P2.2

func TestAdd(t *testing.T) {
	for _, c := range []struct {
		a, b, want api.Nat
		e          api.Errno
	}{
		{nil, nil, nil, api.OK},
		{nil, api.Nat{4}, api.Nat{4}, api.OK},
		{api.Nat{2}, api.Nat{3}, api.Nat{5}, api.OK},
		{api.Nat{maxLimb}, api.Nat{1}, api.Nat{0, 1}, api.OK},
		{api.Nat{1}, limbs(5, maxLimb), api.Nat{0, 0, 0, 0, 0, 1}, api.OK},
		{limbs(63, maxLimb), api.Nat{1}, power(2016), api.OK},
		{most(), nil, most(), api.OK},
		{power(2047), power(2046), append(limbs(63, 0), 3<<30), api.OK},
		{most(), api.Nat{1}, nil, api.ErrBig},
		{api.Nat{1}, most(), nil, api.ErrBig},
		{power(2047), power(2047), nil, api.ErrBig},
		{most(), most(), nil, api.ErrBig},
	} {
		if got, e := nat.Add(c.a, c.b); !slices.Equal(got, c.want) || e != c.e {
			t.Errorf("Add(%v, %v): %v, %d", c.a, c.b, got, e)
		}
	}
	eachPair(func(a, b api.Nat) {
		checkPair(t, "Add", nat.Add, a, b, new(big.Int).Add(toBig(a), toBig(b)))
	})
}

func TestSub(t *testing.T) {
	for _, c := range []struct {
		a, b, want api.Nat
		e          api.Errno
	}{
		{nil, nil, nil, api.OK},
		{api.Nat{5}, api.Nat{3}, api.Nat{2}, api.OK},
		{api.Nat{5, 6}, nil, api.Nat{5, 6}, api.OK},
		{api.Nat{0, 1}, api.Nat{1}, api.Nat{maxLimb}, api.OK},
		{power(2016), api.Nat{1}, limbs(63, maxLimb), api.OK},
		{api.Nat{7, 8, 9}, api.Nat{6, 8, 9}, api.Nat{1}, api.OK},
		{most(), most(), nil, api.OK},
		{nil, api.Nat{1}, nil, api.ErrArg},
		{nil, most(), nil, api.ErrArg},
		{api.Nat{maxLimb}, api.Nat{0, 1}, nil, api.ErrArg},
		{api.Nat{9, 1}, api.Nat{0, 2}, nil, api.ErrArg},
		{api.Nat{7, 8, 9}, api.Nat{8, 8, 9}, nil, api.ErrArg},
	} {
		if got, e := nat.Sub(c.a, c.b); !slices.Equal(got, c.want) || e != c.e {
			t.Errorf("Sub(%v, %v): %v, %d", c.a, c.b, got, e)
		}
	}
	eachPair(func(a, b api.Nat) {
		exact := new(big.Int).Sub(toBig(a), toBig(b))
		if exact.Sign() >= 0 {
			checkPair(t, "Sub", nat.Sub, a, b, exact)
			return
		}
		if got, e := nat.Sub(a, b); len(got) != 0 || e != api.ErrArg {
			t.Fatalf("Sub(%v, %v): %v, %d", a, b, got, e)
		}
	})
}

func TestMul(t *testing.T) {
	for _, c := range []struct {
		a, b, want api.Nat
		e          api.Errno
	}{
		{nil, nil, nil, api.OK},
		{nil, most(), nil, api.OK},
		{most(), nil, nil, api.OK},
		{most(), api.Nat{1}, most(), api.OK},
		{api.Nat{6}, api.Nat{7}, api.Nat{42}, api.OK},
		{api.Nat{1 << 16}, api.Nat{1 << 16}, api.Nat{0, 1}, api.OK},
		{api.Nat{maxLimb}, api.Nat{maxLimb}, api.Nat{1, maxLimb - 1}, api.OK},
		{power(1000), power(1047), power(2047), api.OK},
		{power(1000), power(1048), nil, api.ErrBig},
		{power(2047), api.Nat{2}, nil, api.ErrBig},
		{most(), api.Nat{2}, nil, api.ErrBig},
		{most(), most(), nil, api.ErrBig},
		// Of n and m limbs come n + m, or one fewer: 33 and 32 are the lengths at which both may be.
		{limbs(32, maxLimb), limbs(33, 1), nil, api.ErrBig},
		{append(limbs(32, 0), 1), append(limbs(31, 0), maxLimb), append(limbs(63, 0), maxLimb), api.OK},
	} {
		if got, e := nat.Mul(c.a, c.b); !slices.Equal(got, c.want) || e != c.e {
			t.Errorf("Mul(%v, %v): %v, %d", c.a, c.b, got, e)
		}
	}
	eachPair(func(a, b api.Nat) {
		checkPair(t, "Mul", nat.Mul, a, b, new(big.Int).Mul(toBig(a), toBig(b)))
	})
}

func checkDiv(t *testing.T, a, b api.Nat) {
	t.Helper()
	q, r, e := nat.Div(a, b)
	if len(b) == 0 {
		if len(q) != 0 || len(r) != 0 || e != api.ErrZero {
			t.Fatalf("Div(%v, 0): %v, %v, %d", a, q, r, e)
		}
		return
	}
	exactQ, exactR := new(big.Int).QuoRem(toBig(a), toBig(b), new(big.Int))
	wantQ, wantR := fromBig(exactQ), fromBig(exactR)
	if e != api.OK || !slices.Equal(q, wantQ) || !slices.Equal(r, wantR) {
		t.Fatalf("Div(%v, %v): %v, %v, %d, not %v, %v", a, b, q, r, e, wantQ, wantR)
	}
}

func TestDiv(t *testing.T) {
	for _, c := range []struct{ a, b, q, r api.Nat }{
		{nil, api.Nat{1}, nil, nil},
		{nil, most(), nil, nil},
		{api.Nat{17}, api.Nat{5}, api.Nat{3}, api.Nat{2}},
		{api.Nat{5}, api.Nat{5}, api.Nat{1}, nil},
		{api.Nat{0, 1}, api.Nat{2}, api.Nat{1 << 31}, nil},
		{api.Nat{7, 3}, api.Nat{8, 3}, nil, api.Nat{7, 3}},
		{api.Nat{7}, api.Nat{8, 3}, nil, api.Nat{7}},
		{most(), api.Nat{1}, most(), nil},
		{most(), most(), api.Nat{1}, nil},
		{most(), power(2047), api.Nat{1}, append(limbs(63, maxLimb), 1<<31-1)},
		{power(2047), most(), nil, power(2047)},
		{most(), api.Nat{maxLimb, maxLimb}, alternate(63), nil},
	} {
		if q, r, e := nat.Div(c.a, c.b); !slices.Equal(q, c.q) || !slices.Equal(r, c.r) || e != api.OK {
			t.Errorf("Div(%v, %v): %v, %v, %d", c.a, c.b, q, r, e)
		}
	}
	eachPair(func(a, b api.Nat) { checkDiv(t, a, b) })
}

// alternate is 1, 0, 1 and so on, so many limbs.
func alternate(count int) api.Nat {
	a := make(api.Nat, count)
	for i := 0; i < count; i += 2 {
		a[i] = 1
	}
	return a
}

func TestDivByZero(t *testing.T) {
	for _, a := range []api.Nat{nil, {1}, {0, 1}, most()} {
		for _, zero := range []api.Nat{nil, {}} {
			if q, r, e := nat.Div(a, zero); len(q) != 0 || len(r) != 0 || e != api.ErrZero {
				t.Errorf("Div(%v, 0): %v, %v, %d", a, q, r, e)
			}
		}
	}
}

// Just below, at, and just above a multiple is where a limb that is guessed goes wrong.
func TestDivNearMultiples(t *testing.T) {
	m := mix(3)
	for _, count := range []int{2, 3, 5, 32} {
		for range 3000 {
			b, times := m.number(count), m.number(count)
			if len(b) == 0 {
				continue
			}
			multiple := new(big.Int).Mul(toBig(b), toBig(times))
			for _, by := range []int64{-1, 0, 1} {
				near := new(big.Int).Add(multiple, big.NewInt(by))
				if near.Sign() >= 0 {
					checkDiv(t, fromBig(near), b)
				}
			}
		}
	}
}

// With few different limbs the guesses are wrong most often, by 1 and by 2.
func TestDivWhereGuessesAreWrong(t *testing.T) {
	few := []uint32{0, 1, 1<<31 - 1, 1 << 31, 1<<31 + 1, maxLimb - 1, maxLimb}
	var short, long []api.Nat
	for _, x := range few {
		for _, y := range few {
			for _, z := range few {
				if z != 0 {
					short = append(short, api.Nat{x, z}, api.Nat{x, y, z})
				}
				for _, top := range few[1:] {
					long = append(long, api.Nat{x, y, z, top})
				}
			}
		}
	}
	for _, a := range long {
		for _, b := range short {
			checkDiv(t, a, b)
		}
	}
}

func checkGcd(t *testing.T, a, b api.Nat) {
	t.Helper()
	checkPair(t, "Gcd", nat.Gcd, a, b, new(big.Int).GCD(nil, nil, toBig(a), toBig(b)))
}

func TestGcd(t *testing.T) {
	for _, c := range []struct{ a, b, want api.Nat }{
		{nil, nil, nil},
		{nil, api.Nat{7}, api.Nat{7}},
		{api.Nat{7}, nil, api.Nat{7}},
		{nil, most(), most()},
		{most(), nil, most()},
		{most(), most(), most()},
		{api.Nat{12}, api.Nat{18}, api.Nat{6}},
		{api.Nat{18}, api.Nat{12}, api.Nat{6}},
		{api.Nat{1}, most(), api.Nat{1}},
		{most(), power(2047), api.Nat{1}},
		{power(2047), power(1000), power(1000)},
		{limbs(48, maxLimb), limbs(32, maxLimb), limbs(16, maxLimb)},
	} {
		if got, e := nat.Gcd(c.a, c.b); !slices.Equal(got, c.want) || e != api.OK {
			t.Errorf("Gcd(%v, %v): %v, %d", c.a, c.b, got, e)
		}
	}
	list := edges()
	for _, a := range list {
		for _, b := range list {
			checkGcd(t, a, b)
		}
	}
}

func TestGcdOfWhatHasSomethingInCommon(t *testing.T) {
	m := mix(4)
	for _, count := range []int{1, 2, 4, 20, 32} {
		for range 300 {
			common := toBig(m.number(count))
			a := new(big.Int).Mul(common, toBig(m.number(count)))
			b := new(big.Int).Mul(common, toBig(m.number(count)))
			checkGcd(t, fromBig(a), fromBig(b))
		}
	}
}

// Neighbours in this row go once in each other, over and over, longer than any other two.
func TestGcdOfTheLongestWay(t *testing.T) {
	a, b := nat.Of(0), nat.Of(1)
	for nat.Bits(b) < 32*api.MaxLimbs {
		if got, e := nat.Gcd(b, a); !slices.Equal(got, api.Nat{1}) || e != api.OK {
			t.Fatalf("Gcd(%v, %v): %v, %d", b, a, got, e)
		}
		a, b = b, must(t, nat.Add, a, b)
	}
}

// The chapter's example.

func TestLimbsOfTheExample(t *testing.T) {
	want := api.Nat{0, 1}
	if got := nat.Of(1 << 32); !slices.Equal(got, want) {
		t.Errorf("Of(2^32): %v", got)
	}
	if got, e := nat.Read("4294967296"); !slices.Equal(got, want) || e != api.OK {
		t.Errorf("Read of 2^32: %v, %d", got, e)
	}
}
