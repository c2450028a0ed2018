package nat_test

import (
	"math/big"
	"slices"
	"testing"

	"samphire/api"
	"samphire/nat"
)

const (
	maxLimb = 1<<32 - 1
	maxWord = 1<<64 - 1
)

// toBig and fromBig tie naturals to math/big, which knows nothing of this package.
func toBig(a api.Nat) *big.Int {
	n := new(big.Int)
	for i := len(a) - 1; i >= 0; i-- {
		n.Lsh(n, 32)
		n.Or(n, big.NewInt(int64(a[i])))
	}
	return n
}

func fromBig(n *big.Int) api.Nat {
	var a api.Nat
	left := new(big.Int).Set(n)
	for left.Sign() > 0 {
		a = append(a, uint32(new(big.Int).And(left, big.NewInt(maxLimb)).Uint64()))
		left.Rsh(left, 32)
	}
	return a
}

// limbs is a natural of so many times one limb.
func limbs(count int, limb uint32) api.Nat {
	return slices.Repeat(api.Nat{limb}, count)
}

// power is 2 to so much.
func power(bit int) api.Nat {
	a := make(api.Nat, bit/32+1)
	a[bit/32] = 1 << (bit % 32)
	return a
}

// most is the greatest natural.
func most() api.Nat { return limbs(api.MaxLimbs, maxLimb) }

// wrong are limbs that are no natural.
func wrong() []api.Nat {
	return []api.Nat{
		{0}, {0, 0}, {1, 0}, {0, 1, 0}, {maxLimb, maxLimb, 0},
		make(api.Nat, api.MaxLimbs),
		append(limbs(api.MaxLimbs-1, 7), 0),
		make(api.Nat, api.MaxLimbs+1),
		append(most(), 0),
		append(most(), 1),
		limbs(api.MaxLimbs+1, maxLimb),
		limbs(1000, 3),
	}
}

// edges are naturals of all sorts of lengths, at which carries, shifts and guesses turn.
func edges() []api.Nat {
	list := []api.Nat{nil, {2}, {3}, {9}, {10}, {999999999}, {1000000000}, {1000000001}}
	for _, count := range []int{1, 2, 3, 4, 5, 31, 32, 33, 63, 64} {
		list = append(list,
			limbs(count, maxLimb),
			limbs(count, 1<<31),
			limbs(count, 1),
			append(limbs(count-1, maxLimb), 1),
			append(limbs(count-1, maxLimb), 1<<31),
			append(limbs(count-1, maxLimb), 1<<31-1),
			append(limbs(count-1, 0), 1),
			append(limbs(count-1, 0), 1<<31),
			append(limbs(count-1, 0), maxLimb),
		)
	}
	return list
}

// mix is a fixed stream of words (splitmix64), so that each run tests the same numbers.
type mix uint64

func (m *mix) word() uint64 {
	*m += 0x9e3779b97f4a7c15
	z := uint64(*m)
	z = (z ^ z>>30) * 0xbf58476d1ce4e5b9
	z = (z ^ z>>27) * 0x94d049bb133111eb
	return z ^ z>>31
}

// limb is often one of the edges.
func (m *mix) limb() uint32 {
	w := m.word()
	switch w >> 61 {
	case 0:
		return 0
	case 1:
		return maxLimb
	case 2:
		return 1 << 31
	}
	return uint32(w)
}

// number has at most so many limbs.
func (m *mix) number(count int) api.Nat {
	a := make(api.Nat, m.word()%uint64(count+1))
	for i := range a {
		a[i] = m.limb()
	}
	if len(a) > 0 {
		top := len(a) - 1
		a[top] = max(1, a[top]>>(m.word()%32))
	}
	return a
}

// eachPair goes through all pairs of edges, and many others.
func eachPair(do func(a, b api.Nat)) {
	list := edges()
	for _, a := range list {
		for _, b := range list {
			do(a, b)
		}
	}
	m := mix(1)
	for _, count := range []int{2, 4, 8, 33, api.MaxLimbs} {
		for range 2000 {
			do(m.number(count), m.number(count))
		}
	}
}

// eachNumber goes through all edges, the powers of 2 and 10 and their neighbours, and many others.
func eachNumber(do func(a api.Nat)) {
	for _, a := range edges() {
		do(a)
	}
	for _, base := range []int64{2, 10} {
		p := big.NewInt(1)
		for p.BitLen() <= 32*api.MaxLimbs {
			for _, by := range []int64{-1, 0, 1} {
				do(fromBig(new(big.Int).Add(p, big.NewInt(by))))
			}
			p.Mul(p, big.NewInt(base))
		}
	}
	m := mix(2)
	for range 3000 {
		do(m.number(api.MaxLimbs))
	}
}

type pairCall func(a, b api.Nat) (api.Nat, api.Errno)

// checkPair asks for what is exact, and for an ErrBig just where that has too many limbs.
func checkPair(t *testing.T, name string, call pairCall, a, b api.Nat, exact *big.Int) {
	t.Helper()
	got, e := call(a, b)
	if exact.BitLen() > 32*api.MaxLimbs {
		if len(got) != 0 || e != api.ErrBig {
			t.Fatalf("%s(%v, %v): %v, %d, not ErrBig", name, a, b, got, e)
		}
		return
	}
	if want := fromBig(exact); !slices.Equal(got, want) || e != api.OK {
		t.Fatalf("%s(%v, %v): %v, %d, not %v", name, a, b, got, e, want)
	}
}

// checkWrong hands in what is no natural on either side, and on both.
func checkWrong(t *testing.T, name string, call pairCall) {
	t.Helper()
	right := []api.Nat{nil, {1}, {5, 7}, most()}
	for _, bad := range wrong() {
		for _, other := range append(right, wrong()...) {
			if got, e := call(bad, other); len(got) != 0 || e != api.ErrArg {
				t.Errorf("%s(%v, %v): %v, %d", name, bad, other, got, e)
			}
			if got, e := call(other, bad); len(got) != 0 || e != api.ErrArg {
				t.Errorf("%s(%v, %v): %v, %d", name, other, bad, got, e)
			}
		}
	}
}

func must(t *testing.T, call pairCall, a, b api.Nat) api.Nat {
	t.Helper()
	got, e := call(a, b)
	if e != api.OK {
		t.Fatalf("of %v and %v: %d", a, b, e)
	}
	return got
}

func checkNatural(t *testing.T, a api.Nat) {
	t.Helper()
	if !nat.Right(a) {
		t.Fatalf("%v is answered, and no natural", a)
	}
}
