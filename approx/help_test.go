package approx_test

import (
	"math"
	"math/big"
	"slices"
	"testing"

	"samphire/api"
	"samphire/approx"
)

const (
	maxLimb  = 1<<32 - 1
	infinite = uint64(0x7ff) << 52 // the bits of the infinite one above 0
)

// toBig and fromBig tie naturals to math/big, which knows nothing of this package.
func toBig(a api.Nat) *big.Int {
	n := new(big.Int)
	for i := len(a) - 1; i >= 0; i-- {
		n.Lsh(n, 32)
		n.Or(n, big.NewInt(int64(a[i])))
	}
	return n
}

func fromBig(n *big.Int) api.Nat {
	var a api.Nat
	left := new(big.Int).Set(n)
	for left.Sign() > 0 {
		a = append(a, uint32(new(big.Int).And(left, big.NewInt(maxLimb)).Uint64()))
		left.Rsh(left, 32)
	}
	return a
}

func ratOf(a api.Rat) *big.Rat { return new(big.Rat).SetFrac(toBig(a.Num), toBig(a.Den)) }

func fromRat(r *big.Rat) api.Rat {
	return api.Rat{Num: fromBig(r.Num()), Den: fromBig(r.Denom())}
}

func tooBig(n *big.Int) bool { return n.BitLen() > 32*api.MaxLimbs }

func fits(r *big.Rat) bool { return !tooBig(r.Num()) && !tooBig(r.Denom()) }

// times is n times 2 to so much.
func times(n int64, power int) *big.Rat {
	r := new(big.Rat).SetInt64(n)
	two := new(big.Int).Lsh(big.NewInt(1), uint(max(power, -power)))
	if power < 0 {
		return r.Quo(r, new(big.Rat).SetInt(two))
	}
	return r.Mul(r, new(big.Rat).SetInt(two))
}

func plus(a, b *big.Rat) *big.Rat { return new(big.Rat).Add(a, b) }
func less(a, b *big.Rat) *big.Rat { return new(big.Rat).Sub(a, b) }

// most is the greatest natural.
func most() api.Nat { return slices.Repeat(api.Nat{maxLimb}, api.MaxLimbs) }

// valueOf is what the bits of a float64 stand for, 2^1024 being those of the infinite one.
func valueOf(bits uint64) *big.Rat {
	if bits == infinite {
		return times(1, 1024)
	}
	return new(big.Rat).SetFloat64(math.Float64frombits(bits))
}

// middle is what lies half way to the next one up.
func middle(bits uint64) *big.Rat {
	sum := plus(valueOf(bits), valueOf(bits+1))
	return sum.Quo(sum, big.NewRat(2, 1))
}

// nearest is the document's word for word: of all numbers, and 2^1024, that which is nearest, and of two
// as near the one whose last bit is 0. The bits of float64 without a sign count them up, one by one.
func nearest(a *big.Rat) float64 {
	if a.Cmp(valueOf(infinite)) >= 0 {
		return math.Inf(1)
	}
	low, high := uint64(0), infinite
	for high-low > 1 {
		between := low + (high-low)/2
		if valueOf(between).Cmp(a) <= 0 {
			low = between
		} else {
			high = between
		}
	}
	order := less(a, valueOf(low)).Cmp(less(valueOf(high), a))
	if order > 0 || order == 0 && low%2 == 1 {
		return math.Float64frombits(high)
	}
	return math.Float64frombits(low)
}

func sameBits(f, g float64) bool { return math.Float64bits(f) == math.Float64bits(g) }

func checkFloat(t *testing.T, a api.Rat, want float64) {
	t.Helper()
	f, e := approx.Float(a)
	if e != api.OK || !sameBits(f, want) {
		t.Fatalf("Float(%v): %v (%x), %d, not %v (%x)", a, f, math.Float64bits(f), e, want, math.Float64bits(want))
	}
}

func equal(a, b api.Rat) bool {
	return slices.Equal(a.Num, b.Num) && slices.Equal(a.Den, b.Den)
}

func copied(a api.Rat) api.Rat {
	return api.Rat{Num: slices.Clone(a.Num), Den: slices.Clone(a.Den)}
}

// wrong are pairs that are no fraction.
func wrong() []api.Rat {
	list := []api.Rat{
		{},
		{Num: api.Nat{}, Den: api.Nat{}},
		{Num: api.Nat{1}},
		{Num: most()},
		// 0 over another Den than 1
		{Den: api.Nat{2}}, {Den: api.Nat{0, 1}}, {Den: most()},
		// not reduced
		{Num: api.Nat{2}, Den: api.Nat{2}}, {Num: api.Nat{2}, Den: api.Nat{4}}, {Num: api.Nat{6}, Den: api.Nat{3}},
		{Num: api.Nat{0, 1}, Den: api.Nat{2}}, {Num: most(), Den: most()}, {Num: api.Nat{3}, Den: most()},
	}
	// no naturals
	for _, bad := range []api.Nat{
		{0}, {1, 0}, {0, 1, 0},
		make(api.Nat, api.MaxLimbs),
		append(most(), 0), append(most(), 1),
		slices.Repeat(api.Nat{3}, 1000),
	} {
		list = append(list,
			api.Rat{Num: bad, Den: api.Nat{1}}, api.Rat{Num: api.Nat{1}, Den: bad},
			api.Rat{Num: bad}, api.Rat{Den: bad}, api.Rat{Num: bad, Den: bad})
	}
	return list
}

// mix is a fixed stream of words (splitmix64), so that each run tests the same numbers.
type mix uint64

func (m *mix) word() uint64 {
	*m += 0x9e3779b97f4a7c15
	z := uint64(*m)
	z = (z ^ z>>30) * 0xbf58476d1ce4e5b9
	z = (z ^ z>>27) * 0x94d049bb133111eb
	return z ^ z>>31
}

// number has at most so many bits, and is not 0.
func (m *mix) number(bits int) *big.Int {
	n := new(big.Int)
	for range bits/64 + 1 {
		n.Lsh(n, 64)
		n.Or(n, new(big.Int).SetUint64(m.word()))
	}
	n.Rsh(n, uint(n.BitLen()-min(n.BitLen(), 1+int(m.word()%uint64(bits)))))
	return n.SetBit(n, 0, 1)
}

func (m *mix) fraction(bits int) *big.Rat {
	return new(big.Rat).SetFrac(m.number(bits), m.number(bits))
}

// bits are those of a float64 from 0 on, of all sizes alike, and not infinite.
func (m *mix) bits() uint64 { return m.word() % infinite }

// edgeBits are those of float64 at which something changes, and of their neighbours.
func edgeBits() []uint64 {
	list := []uint64{0, 1, 2, 3}
	for _, f := range []float64{
		0x1p-1073, 0x1p-1050, 0x1p-1023, 0x1p-1022, 0x1p-1021, 0x1p-1020,
		0x1p-600, 0x1p-53, 0x1p-52, 0x1p-32, 0.1, 1.0 / 3, 0.5, 1, 2, 3, 10,
		0x1p31, 0x1p32, 0x1p52, 0x1p53, 0x1p54, 0x1p63, 0x1p64, 0x1p600, 0x1p1022, 0x1p1023,
	} {
		bits := math.Float64bits(f)
		list = append(list, bits-2, bits-1, bits, bits+1, bits+2)
	}
	return append(list, infinite-3, infinite-2, infinite-1)
}

// edges are fractions at these, half way between them and their neighbours, and just beside all that.
func edges() []*big.Rat {
	var list []*big.Rat
	for _, bits := range edgeBits() {
		list = append(list, beside(valueOf(bits))...)
		list = append(list, beside(middle(bits))...)
	}
	list = append(list, beside(times(1, 1024))...)
	for _, power := range []int{1076, 1075, 1100, 2000, 2047} {
		list = append(list, times(1, power), times(3, -power), times(1, -power))
	}
	greatest := fromNat(most())
	return append(list, greatest, new(big.Rat).Inv(greatest), new(big.Rat).Quo(greatest, times(1, 2047)))
}

func fromNat(a api.Nat) *big.Rat { return new(big.Rat).SetInt(toBig(a)) }

// beside are a, and what is less and greater by as little as its limbs allow, and by thousandths.
func beside(a *big.Rat) []*big.Rat {
	list := []*big.Rat{a}
	for _, step := range []*big.Rat{
		times(1, -1900), times(1, -1000),
		new(big.Rat).Quo(a, times(1, 900)), new(big.Rat).Quo(a, times(1000, 54)),
	} {
		for _, near := range []*big.Rat{plus(a, step), less(a, step)} {
			if near.Sign() >= 0 && fits(near) {
				list = append(list, near)
			}
		}
	}
	return list
}

// eachFraction goes through all edges, and many others.
func eachFraction(do func(a *big.Rat)) {
	for _, a := range edges() {
		do(a)
	}
	m := mix(1)
	for _, bits := range []int{8, 32, 64, 120, 1100, 2040} {
		for range 300 {
			do(m.fraction(bits))
		}
	}
	for range 300 {
		bits := m.bits()
		for _, a := range []*big.Rat{valueOf(bits), middle(bits)} {
			do(a)
		}
	}
}
