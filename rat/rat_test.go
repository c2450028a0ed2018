package rat_test

import (
	"math/big"
	"slices"
	"testing"

	"samphire/api"
	"samphire/rat"
)

// P3.1

func TestRight(t *testing.T) {
	for _, a := range edges() {
		if !rat.Right(a) {
			t.Errorf("Right(%v): false", a)
		}
	}
	if !rat.Right(of(api.Nat{}, api.Nat{1})) {
		t.Error("an empty Num over 1 is 0")
	}
	for _, a := range wrong() {
		if rat.Right(a) {
			t.Errorf("Right(%v): true", a)
		}
	}
}

func TestRightOfAllSmallOnes(t *testing.T) {
	for num := range int64(40) {
		for den := range int64(40) {
			common := new(big.Int).GCD(nil, nil, big.NewInt(num), big.NewInt(den)).Int64()
			want := den != 0 && common == 1
			if got := rat.Right(small(uint32(num), uint32(den))); got != want {
				t.Errorf("Right(%d/%d): %v", num, den, got)
			}
		}
	}
}

func TestMake(t *testing.T) {
	for _, c := range []struct {
		num, den api.Nat
		want     api.Rat
	}{
		{nil, api.Nat{1}, small(0, 1)},
		{api.Nat{}, api.Nat{7}, small(0, 1)},
		{nil, most(), small(0, 1)},
		{api.Nat{1}, api.Nat{1}, small(1, 1)},
		{api.Nat{6}, api.Nat{8}, small(3, 4)},
		{api.Nat{8}, api.Nat{6}, small(4, 3)},
		{api.Nat{6}, api.Nat{3}, small(2, 1)},
		{api.Nat{3}, api.Nat{6}, small(1, 2)},
		{api.Nat{7}, api.Nat{9}, small(7, 9)},
		{api.Nat{0, 1}, api.Nat{6}, of(api.Nat{1 << 31}, api.Nat{3})},
		{most(), most(), small(1, 1)},
		{most(), api.Nat{1}, of(most(), api.Nat{1})},
		{api.Nat{1}, most(), of(api.Nat{1}, most())},
		{most(), power(2047), of(most(), power(2047))},
		{power(2047), power(1000), of(power(1047), api.Nat{1})},
		{limbs(64, maxLimb), limbs(32, maxLimb), of(append(append(api.Nat{1}, limbs(31, 0)...), 1), api.Nat{1})},
	} {
		got, e := rat.Make(c.num, c.den)
		if e != api.OK || !equal(got, c.want) {
			t.Errorf("Make(%v, %v): %v, %d, not %v", c.num, c.den, got, e, c.want)
		}
	}
}

func TestMakeOfWhatHasSomethingInCommon(t *testing.T) {
	m := mix(2)
	for _, count := range []int{1, 2, 5, 20, 32} {
		for range 200 {
			common := m.number(1, count)
			num, den := by(m.number(0, count), common), by(m.number(1, count), common)
			want, _ := reducedBig(num, den)
			got, e := rat.Make(fromBig(num), fromBig(den))
			if e != api.OK || !equal(got, want) || !rat.Right(got) {
				t.Fatalf("Make(%v, %v): %v, %d, not %v", num, den, got, e, want)
			}
		}
	}
}

func TestMakeOverZero(t *testing.T) {
	for _, num := range []api.Nat{nil, {}, {1}, {5, 7}, most()} {
		for _, zero := range []api.Nat{nil, {}} {
			if got, e := rat.Make(num, zero); e != api.ErrZero || !equal(got, api.Rat{}) {
				t.Errorf("Make(%v, 0): %v, %d", num, got, e)
			}
		}
	}
}

// What is no natural is an ErrArg, over 0 as well: that is named first.
func TestMakeOfWrong(t *testing.T) {
	others := append([]api.Nat{nil, {1}, {5, 7}, most()}, wrongNats()...)
	for _, bad := range wrongNats() {
		for _, other := range others {
			if got, e := rat.Make(bad, other); e != api.ErrArg || !equal(got, api.Rat{}) {
				t.Errorf("Make(%v, %v): %v, %d", bad, other, got, e)
			}
			if got, e := rat.Make(other, bad); e != api.ErrArg || !equal(got, api.Rat{}) {
				t.Errorf("Make(%v, %v): %v, %d", other, bad, got, e)
			}
		}
	}
}

func TestWhole(t *testing.T) {
	for _, c := range []struct {
		n    uint64
		want api.Nat
	}{
		{0, nil},
		{1, api.Nat{1}},
		{maxLimb, api.Nat{maxLimb}},
		{1 << 32, api.Nat{0, 1}},
		{1<<64 - 1, api.Nat{maxLimb, maxLimb}},
	} {
		got := rat.Whole(c.n)
		if !slices.Equal(got.Num, c.want) || !slices.Equal(got.Den, api.Nat{1}) || !rat.Right(got) {
			t.Errorf("Whole(%d): %v", c.n, got)
		}
	}
}

// What is no fraction is an ErrArg on either side, whatever the other one is: 0 and what is too big too.
func TestAllOthersOfWrong(t *testing.T) {
	others := append(wrong(), small(0, 1), small(1, 2), of(most(), api.Nat{1}), of(api.Nat{1}, most()))
	for _, bad := range wrong() {
		for _, other := range others {
			for name, do := range calls() {
				if name == "Make" {
					continue
				}
				got, e := do(bad, other)
				checkTold(t, name, bad, other, got, e, api.Rat{}, api.ErrArg)
				got, e = do(other, bad)
				checkTold(t, name, other, bad, got, e, api.Rat{}, api.ErrArg)
			}
			if c, e := rat.Cmp(bad, other); c != 0 || e != api.ErrArg {
				t.Fatalf("Cmp(%v, %v): %d, %d", bad, other, c, e)
			}
			if c, e := rat.Cmp(other, bad); c != 0 || e != api.ErrArg {
				t.Fatalf("Cmp(%v, %v): %d, %d", other, bad, c, e)
			}
		}
	}
}

// P3.3

func TestText(t *testing.T) {
	for _, c := range []struct {
		a    api.Rat
		want string
	}{
		{small(0, 1), "0/1"},
		{of(api.Nat{}, api.Nat{1}), "0/1"},
		{small(1, 1), "1/1"},
		{small(2, 3), "2/3"},
		{small(10, 1), "10/1"},
		{small(1, 10), "1/10"},
		{of(api.Nat{0, 1}, api.Nat{1}), "4294967296/1"},
		{of(api.Nat{1}, api.Nat{0, 1}), "1/4294967296"},
		{small(1000000000, maxLimb-2), "1000000000/4294967293"},
	} {
		if got := rat.Text(c.a); got != c.want {
			t.Errorf("Text(%v): %q, not %q", c.a, got, c.want)
		}
	}
	for _, a := range edges() {
		want := toBig(a.Num).String() + "/" + toBig(a.Den).String()
		if got := rat.Text(a); got != want {
			t.Errorf("Text(%v): %q, not %q", a, got, want)
		}
	}
}

func TestTextOfWrong(t *testing.T) {
	for _, a := range wrong() {
		if got := rat.Text(a); got != "" {
			t.Errorf("Text(%v): %q", a, got)
		}
	}
}
