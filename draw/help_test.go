package draw_test

import (
	"math"
	"math/big"
	"slices"
	"testing"

	"samphire/api"
	"samphire/draw"
)

const (
	maxLimb = 1<<32 - 1
	maxWord = 1<<64 - 1
)

// toBig and fromBig tie naturals to math/big, which knows nothing of this package.
func toBig(a api.Nat) *big.Int {
	n := new(big.Int)
	for i := len(a) - 1; i >= 0; i-- {
		n.Lsh(n, 32)
		n.Or(n, big.NewInt(int64(a[i])))
	}
	return n
}

func fromBig(n *big.Int) api.Nat {
	var a api.Nat
	left := new(big.Int).Set(n)
	for left.Sign() > 0 {
		a = append(a, uint32(new(big.Int).And(left, big.NewInt(maxLimb)).Uint64()))
		left.Rsh(left, 32)
	}
	return a
}

func bigOf(n uint64) *big.Int { return new(big.Int).SetUint64(n) }

// wordsOf are a number's bits, the lowest 64 first, in so many words.
func wordsOf(n *big.Int, count int) []uint64 {
	list := make([]uint64, count)
	left := new(big.Int).Set(n)
	for i := range list {
		list[i] = new(big.Int).And(left, bigOf(maxWord)).Uint64()
		left.Rsh(left, 64)
	}
	return list
}

// limbs is a natural of so many times one limb.
func limbs(count int, limb uint32) api.Nat {
	return slices.Repeat(api.Nat{limb}, count)
}

// powerAnd is 2 to so much, and by more.
func powerAnd(bit int, by int64) *big.Int {
	n := new(big.Int).Lsh(big.NewInt(1), uint(bit))
	return n.Add(n, big.NewInt(by))
}

// most is the greatest natural.
func most() api.Nat { return limbs(api.MaxLimbs, maxLimb) }

// wrongNats are limbs that are no natural.
func wrongNats() []api.Nat {
	return []api.Nat{
		{0}, {0, 0}, {1, 0}, {5, 0}, {0, 1, 0}, {maxLimb, maxLimb, 0},
		make(api.Nat, api.MaxLimbs),
		append(limbs(api.MaxLimbs-1, 7), 0),
		append(most(), 0),
		append(most(), 1),
		limbs(api.MaxLimbs+1, maxLimb),
		limbs(1000, 3),
	}
}

// wrongWords have an At that is none; some of them would do, if it were another one.
func wrongWords() []draw.Words {
	var all []draw.Words
	for _, list := range [][]uint64{nil, {}, {0}, {1, 2, 3}, make([]uint64, 100)} {
		for _, at := range []int{-1, -2, -len(list) - 1, math.MinInt, len(list) + 1, len(list) + 2, math.MaxInt} {
			all = append(all, draw.Words{List: list, At: at})
		}
	}
	return all
}

// mix is a fixed stream of words (splitmix64), so that each run tests the same ones.
type mix uint64

func (m *mix) word() uint64 {
	*m += 0x9e3779b97f4a7c15
	z := uint64(*m)
	z = (z ^ z>>30) * 0xbf58476d1ce4e5b9
	z = (z ^ z>>27) * 0x94d049bb133111eb
	return z ^ z>>31
}

func (m *mix) below(n int) int { return int(m.word() % uint64(n)) }

// list has so many words, of which some are edges.
func (m *mix) list(count int) []uint64 {
	list := make([]uint64, count)
	for i := range list {
		list[i] = m.word()
		switch m.below(10) {
		case 0:
			list[i] = 0
		case 1:
			list[i] = maxWord
		}
	}
	return list
}

// number has just so many bits, of which there is one at least.
func (m *mix) number(size int) *big.Int {
	n := powerAnd(size-1, 0)
	for bit := range size - 1 {
		n.SetBit(n, bit, uint(m.below(2)))
	}
	return n
}

// modelMask is the document's sentence: the least number that is one less than a power of 2, and no less than the bound less 1.
func modelMask(bound *big.Int) *big.Int {
	least := new(big.Int).Sub(bound, big.NewInt(1))
	mask, one := new(big.Int), big.NewInt(1)
	for mask.Cmp(least) < 0 {
		mask.Lsh(mask, 1).Add(mask, one)
	}
	return mask
}

// modelCount is how many words an attempt takes: as many times as 64 bits can be taken away from the mask's.
func modelCount(mask *big.Int) int {
	count := 0
	for left := new(big.Int).Set(mask); left.Sign() > 0; left.Rsh(left, 64) {
		count++
	}
	return count
}

// model is the document's sentences on attempts, of a bound that is not 0 and of an At that is one.
func model(w draw.Words, bound *big.Int) (*big.Int, int, api.Errno) {
	mask := modelMask(bound)
	count := modelCount(mask)
	for at := w.At; ; {
		n := new(big.Int)
		for i := range count {
			if at == len(w.List) {
				return new(big.Int), w.At, api.ErrDry
			}
			n.Add(n, new(big.Int).Lsh(bigOf(w.List[at]), uint(64*i)))
			at++
		}
		if n.And(n, mask); n.Cmp(bound) < 0 {
			return n, at, api.OK
		}
	}
}

func sameWords(a, b draw.Words) bool { return a.At == b.At && slices.Equal(a.List, b.List) }

// moved are the same words, taken up to another place.
func moved(w draw.Words, at int) draw.Words {
	return draw.Words{List: slices.Clone(w.List), At: at}
}

// checkBelow holds Below's whole answer against what is wanted, and what it was handed against what that was.
func checkBelow(t *testing.T, w draw.Words, bound, want uint64, at int, wantE api.Errno) {
	t.Helper()
	was := moved(w, w.At)
	got, rest, e := draw.Below(w, bound)
	if got != want || !sameWords(rest, moved(was, at)) || e != wantE {
		t.Fatalf("Below(%d of %v, %d): %d, %d of %v, %d, not %d, %d, %d", w.At, w.List, bound, got, rest.At, rest.List, e, want, at, wantE)
	}
	if !slices.Equal(w.List, was.List) {
		t.Fatalf("Below(%d of %v, %d): the words are %v now", w.At, was.List, bound, w.List)
	}
}

// checkBelowNat likewise of BelowNat.
func checkBelowNat(t *testing.T, w draw.Words, bound, want api.Nat, at int, wantE api.Errno) {
	t.Helper()
	was, boundWas := moved(w, w.At), slices.Clone(bound)
	got, rest, e := draw.BelowNat(w, bound)
	if !slices.Equal(got, want) || !sameWords(rest, moved(was, at)) || e != wantE {
		t.Fatalf("BelowNat(%d of %x, %x): %x, %d of %x, %d, not %x, %d, %d", w.At, w.List, bound, got, rest.At, rest.List, e, want, at, wantE)
	}
	if !slices.Equal(w.List, was.List) || !slices.Equal(bound, boundWas) {
		t.Fatalf("BelowNat(%d of %x, %x): these are %x and %x now", w.At, was.List, boundWas, w.List, bound)
	}
}

// checkModel holds BelowNat against the model, and Below too, where the bound has at most 64 bits.
// It tells whether there was a number.
func checkModel(t *testing.T, w draw.Words, bound *big.Int) bool {
	t.Helper()
	want, at, e := model(w, bound)
	checkBelowNat(t, w, fromBig(bound), fromBig(want), at, e)
	if bound.IsUint64() {
		checkBelow(t, w, bound.Uint64(), want.Uint64(), at, e)
	}
	return e == api.OK
}
