package rat_test

import (
	"math/big"
	"slices"
	"testing"

	"samphire/api"
	"samphire/rat"
)

const maxLimb = 1<<32 - 1

// toBig and fromBig tie naturals to math/big, which knows nothing of this package.
func toBig(a api.Nat) *big.Int {
	n := new(big.Int)
	for i := len(a) - 1; i >= 0; i-- {
		n.Lsh(n, 32)
		n.Or(n, big.NewInt(int64(a[i])))
	}
	return n
}

func fromBig(n *big.Int) api.Nat {
	var a api.Nat
	left := new(big.Int).Set(n)
	for left.Sign() > 0 {
		a = append(a, uint32(new(big.Int).And(left, big.NewInt(maxLimb)).Uint64()))
		left.Rsh(left, 32)
	}
	return a
}

func tooBig(n *big.Int) bool { return n.BitLen() > 32*api.MaxLimbs }

// limbs is a natural of so many times one limb.
func limbs(count int, limb uint32) api.Nat {
	return slices.Repeat(api.Nat{limb}, count)
}

// power is 2 to so much.
func power(bit int) api.Nat {
	a := make(api.Nat, bit/32+1)
	a[bit/32] = 1 << (bit % 32)
	return a
}

// most is the greatest natural.
func most() api.Nat { return limbs(api.MaxLimbs, maxLimb) }

// of is written as it stands, reduced or not.
func of(num, den api.Nat) api.Rat { return api.Rat{Num: num, Den: den} }

// small likewise, of numbers of one limb.
func small(num, den uint32) api.Rat {
	return of(fromBig(big.NewInt(int64(num))), fromBig(big.NewInt(int64(den))))
}

// wrongNats are limbs that are no natural.
func wrongNats() []api.Nat {
	return []api.Nat{
		{0}, {1, 0}, {3, 0}, {0, 1, 0},
		make(api.Nat, api.MaxLimbs),
		append(limbs(api.MaxLimbs-1, 7), 0),
		append(most(), 0),
		append(most(), 1),
		limbs(api.MaxLimbs+1, maxLimb),
		limbs(1000, 3),
	}
}

// wrong are pairs that are no fraction.
func wrong() []api.Rat {
	list := []api.Rat{
		{},
		of(api.Nat{}, api.Nat{}),
		of(api.Nat{1}, nil),
		of(api.Nat{2}, nil),
		of(api.Nat{1}, api.Nat{}),
		of(most(), nil),
		// 0 over another Den than 1
		small(0, 2), small(0, 7), of(nil, api.Nat{0, 1}), of(nil, most()),
		// not reduced
		small(2, 2), small(2, 4), small(6, 3), small(3, 6), small(15, 35),
		of(api.Nat{0, 1}, api.Nat{2}), of(api.Nat{2}, api.Nat{0, 1}),
		of(most(), most()), of(most(), api.Nat{3}), of(api.Nat{5}, most()), of(most(), api.Nat{1, 1}),
		of(power(2047), power(1)),
		of(limbs(48, maxLimb), limbs(32, maxLimb)),
	}
	for _, bad := range wrongNats() {
		list = append(list, of(bad, api.Nat{1}), of(api.Nat{1}, bad), of(nil, bad), of(bad, nil), of(bad, bad))
	}
	return list
}

// edges are fractions of all sorts of lengths, at which products and sums become too big.
func edges() []api.Rat {
	list := []api.Rat{
		small(0, 1), small(1, 1), small(2, 1), small(1, 2), small(1, 6), small(2, 3), small(3, 2), small(5, 6),
		small(maxLimb, 1), small(1, maxLimb), small(maxLimb, maxLimb-1), small(maxLimb-1, maxLimb),
		of(api.Nat{0, 1}, api.Nat{1}), of(api.Nat{1}, api.Nat{0, 1}),
		of(power(1024), limbs(32, maxLimb)), of(limbs(32, maxLimb), power(1024)),
		of(most(), power(2047)), of(power(2047), most()),
		of(most(), api.Nat{0, 1}), of(api.Nat{2}, most()),
	}
	for _, bit := range []int{992, 1023, 1024, 1025, 2015, 2016, 2046, 2047} {
		list = append(list,
			of(power(bit), api.Nat{1}), of(api.Nat{1}, power(bit)),
			of(power(bit), api.Nat{3}), of(api.Nat{3}, power(bit)))
	}
	for _, count := range []int{1, 31, 32, 33, 63, 64} {
		list = append(list, of(limbs(count, maxLimb), api.Nat{1}), of(api.Nat{1}, limbs(count, maxLimb)))
	}
	return list
}

// mix is a fixed stream of words (splitmix64), so that each run tests the same numbers.
type mix uint64

func (m *mix) word() uint64 {
	*m += 0x9e3779b97f4a7c15
	z := uint64(*m)
	z = (z ^ z>>30) * 0xbf58476d1ce4e5b9
	z = (z ^ z>>27) * 0x94d049bb133111eb
	return z ^ z>>31
}

// number has at most so many limbs, and at least so few.
func (m *mix) number(least, most int) api.Nat {
	a := make(api.Nat, least+int(m.word()%uint64(most-least+1)))
	for i := range a {
		a[i] = uint32(m.word())
	}
	if len(a) > 0 {
		top := len(a) - 1
		a[top] = max(1, a[top]>>(m.word()%32))
	}
	return a
}

// fraction has at most so many limbs above and below.
func (m *mix) fraction(count int) api.Rat {
	a, _ := reducedBig(toBig(m.number(0, count)), toBig(m.number(1, count)))
	return a
}

// eachPair goes through all pairs of edges, and many others.
func eachPair(do func(a, b api.Rat)) {
	list := edges()
	for _, a := range list {
		for _, b := range list {
			do(a, b)
		}
	}
	m := mix(1)
	for _, count := range []int{1, 2, 8, 33, api.MaxLimbs} {
		for range 300 {
			do(m.fraction(count), m.fraction(count))
		}
	}
}

type call func(a, b api.Rat) (api.Rat, api.Errno)

func calls() map[string]call {
	return map[string]call{
		"Add": rat.Add,
		"Sub": rat.Sub,
		"Mul": rat.Mul,
		"Div": rat.Div,
		"Make": func(a, b api.Rat) (api.Rat, api.Errno) {
			return rat.Make(a.Num, b.Den)
		},
	}
}

func equal(a, b api.Rat) bool {
	return slices.Equal(a.Num, b.Num) && slices.Equal(a.Den, b.Den)
}

func checkTold(t *testing.T, name string, a, b, got api.Rat, e api.Errno, want api.Rat, wantE api.Errno) {
	t.Helper()
	if e != wantE || !equal(got, want) {
		t.Fatalf("%s(%v, %v): %v, %d, not %v, %d", name, a, b, got, e, want, wantE)
	}
}

func must(t *testing.T, do call, a, b api.Rat) api.Rat {
	t.Helper()
	got, e := do(a, b)
	if e != api.OK {
		t.Fatalf("of %v and %v: %d", a, b, e)
	}
	return got
}

func compared(t *testing.T, a, b api.Rat) int {
	t.Helper()
	c, e := rat.Cmp(a, b)
	if e != api.OK {
		t.Fatalf("Cmp(%v, %v): %d", a, b, e)
	}
	return c
}
