package draw_test

import (
	"math/big"
	"slices"
	"testing"

	"samphire/api"
	"samphire/draw"
	"samphire/nat"
)

// P7.1: BelowNat

func TestBelowNatOfKnown(t *testing.T) {
	for _, c := range []struct {
		list  []uint64
		at    int
		bound api.Nat
		want  api.Nat
		then  int
		e     api.Errno
	}{
		{[]uint64{0}, 0, api.Nat{2}, nil, 1, api.OK},
		{[]uint64{3, 2}, 0, api.Nat{3}, api.Nat{2}, 2, api.OK},
		// 2^32: just the lower half of a word.
		{[]uint64{7<<32 | 5}, 0, api.Nat{0, 1}, api.Nat{5}, 1, api.OK},
		// 2^32 and 1: a bit of the upper half too.
		{[]uint64{7<<32 | 5, 6<<32 | 9}, 0, api.Nat{1, 1}, api.Nat{9}, 2, api.OK},
		{[]uint64{1 << 32}, 0, api.Nat{1, 1}, api.Nat{0, 1}, 1, api.OK},
		// 2^64 less 1, 2^64, and 1 more: one word, one word, and two.
		{[]uint64{maxWord, maxWord - 1}, 0, api.Nat{maxLimb, maxLimb}, api.Nat{maxLimb - 1, maxLimb}, 2, api.OK},
		{[]uint64{maxWord, 1}, 0, api.Nat{0, 0, 1}, api.Nat{maxLimb, maxLimb}, 1, api.OK},
		{[]uint64{maxWord, 1, 5, 3, 9, 8}, 0, api.Nat{1, 0, 1}, api.Nat{9}, 6, api.OK},
		{[]uint64{0, 1}, 0, api.Nat{1, 0, 1}, api.Nat{0, 0, 1}, 2, api.OK},
		{[]uint64{0, 1}, 1, api.Nat{1, 0, 1}, nil, 1, api.ErrDry},
		// 2^128, and 1 more: two words, and three.
		{[]uint64{1, 2, 3}, 0, api.Nat{0, 0, 0, 0, 1}, api.Nat{1, 0, 2}, 2, api.OK},
		{[]uint64{1, 2, 4}, 0, api.Nat{1, 0, 0, 0, 1}, api.Nat{1, 0, 2}, 3, api.OK},
		{[]uint64{1, 2, 1}, 0, api.Nat{1, 0, 0, 0, 1}, nil, 0, api.ErrDry},
		// Of 3 times 2^64 the shared tests' words, and a word ahead.
		{[]uint64{9, 1, 7, 5, 2}, 1, api.Nat{0, 0, 3}, api.Nat{5, 0, 2}, 5, api.OK},
	} {
		checkBelowNat(t, draw.Words{List: c.list, At: c.at}, c.bound, c.want, c.then, c.e)
	}
}

func TestBelowNatOneBehindTheOther(t *testing.T) {
	w := draw.Words{List: []uint64{8, 1, 2, 3, 1 << 2, 5, 6}}
	for _, c := range []struct {
		bound, want api.Nat
		at          int
		e           api.Errno
	}{
		{api.Nat{9}, api.Nat{8}, 1, api.OK},
		{api.Nat{0, 0, 3}, api.Nat{1, 0, 2}, 3, api.OK},
		{api.Nat{0}, nil, 3, api.ErrArg},
		{api.Nat{0, 0, 0, 0, 1}, api.Nat{3, 0, 4}, 5, api.OK},
		{api.Nat{0, 0, 0, 0, 2}, nil, 5, api.ErrDry},
		{api.Nat{1}, nil, 5, api.OK},
		{api.Nat{0, 0, 1}, api.Nat{5}, 6, api.OK},
		{api.Nat{0, 0, 2}, nil, 6, api.ErrDry},
		{api.Nat{7}, api.Nat{6}, 7, api.OK},
		{api.Nat{7}, nil, 7, api.ErrDry},
	} {
		checkBelowNat(t, w, c.bound, c.want, c.at, c.e)
		_, w, _ = draw.BelowNat(w, c.bound)
	}
}

// eachSize goes through bounds of which the masks have so many bits: the least one, the greatest one and others.
// Those of 64 and of 128, one fewer and one more, are among them.
func eachSize(do func(size int, bound *big.Int)) {
	m := mix(5)
	for size := 1; size <= 32*api.MaxLimbs; size++ {
		do(size, powerAnd(size-1, 1))
		if size > 1 {
			do(size, powerAnd(size, -1))
		}
		if size < 32*api.MaxLimbs {
			do(size, powerAnd(size, 0))
		}
		// The least one of the size itself is of a mask of one bit fewer.
		if n := m.number(size); modelMask(n).BitLen() == size {
			do(size, n)
		}
	}
}

// An attempt takes just as many words as 64 bits go in: one fewer is too few, and no more than those are taken.
func TestBelowNatTakesItsWords(t *testing.T) {
	eachSize(func(size int, bound *big.Int) {
		count := (size + 63) / 64
		list := make([]uint64, count)
		checkBelowNat(t, draw.Words{List: list}, fromBig(bound), nil, count, api.OK)
		checkBelowNat(t, draw.Words{List: append(list, maxWord, 7)}, fromBig(bound), nil, count, api.OK)
		checkBelowNat(t, draw.Words{List: list[1:]}, fromBig(bound), nil, 0, api.ErrDry)
		checkBelowNat(t, draw.Words{List: list, At: 1}, fromBig(bound), nil, 1, api.ErrDry)
	})
}

// Bits above the mask count nothing; the number just below the bound comes of its own bits, the bound itself does not.
func TestBelowNatAtItsBound(t *testing.T) {
	eachSize(func(size int, bound *big.Int) {
		count := (size + 63) / 64
		mask := powerAnd(size, -1)
		above := new(big.Int).AndNot(powerAnd(64*count, -1), mask)
		last := new(big.Int).Sub(bound, big.NewInt(1))
		for _, more := range []*big.Int{new(big.Int), above} {
			list := wordsOf(new(big.Int).Or(last, more), count)
			checkBelowNat(t, draw.Words{List: list}, fromBig(bound), fromBig(last), count, api.OK)
			if bound.Cmp(mask) > 0 {
				continue
			}
			over := wordsOf(new(big.Int).Or(bound, more), count)
			checkBelowNat(t, draw.Words{List: over}, fromBig(bound), nil, 0, api.ErrDry)
			both := slices.Concat(over, list)
			checkBelowNat(t, draw.Words{List: both}, fromBig(bound), fromBig(last), 2*count, api.OK)
		}
	})
}

func TestBelowNatOfEverySize(t *testing.T) {
	m := mix(6)
	eachSize(func(size int, bound *big.Int) {
		count := (size + 63) / 64
		for range 3 {
			w := draw.Words{List: m.list(m.below(5*count + 1))}
			w.At = m.below(len(w.List)/2 + 1)
			checkModel(t, w, bound)
		}
	})
}

// Few sizes, but many words and bounds, with attempts that fail and words that end in each of them.
func TestBelowNatOfMany(t *testing.T) {
	m := mix(7)
	numbers, dry := 0, 0
	for _, size := range []int{1, 2, 3, 31, 32, 33, 62, 63, 64, 65, 66, 95, 96, 97, 127, 128, 129, 160, 191, 192, 193, 2047, 2048} {
		count := (size + 63) / 64
		for range 500 {
			w := draw.Words{List: m.list(m.below(4*count + 1))}
			w.At = m.below(len(w.List)/2 + 1)
			if checkModel(t, w, m.number(size)) {
				numbers++
			} else {
				dry++
			}
		}
	}
	if numbers < 1000 || dry < 1000 {
		t.Errorf("%d numbers, and %d times too few words", numbers, dry)
	}
}

// The words end within each of the attempts, behind each of their words.
func TestBelowNatDry(t *testing.T) {
	for _, bound := range []*big.Int{powerAnd(2, 1), powerAnd(64, -1), powerAnd(64, 1), powerAnd(127, 1), powerAnd(128, -1), powerAnd(128, 1),
		powerAnd(200, 5), powerAnd(2047, 1), powerAnd(2048, -1)} {
		list := []uint64{3, 4}
		for range 140 {
			checkBelowNat(t, draw.Words{List: list, At: 2}, fromBig(bound), nil, 2, api.ErrDry)
			list = append(list, maxWord)
		}
	}
}

// Behind attempts that fail, the number comes of the words of its own attempt alone, whatever those ahead had.
func TestBelowNatOfLaterAttempt(t *testing.T) {
	for _, size := range []int{2, 33, 63, 64, 65, 96, 128, 129, 192, 2048} {
		count := (size + 63) / 64
		for attempts := range 5 {
			for _, n := range []*big.Int{new(big.Int), big.NewInt(1), powerAnd(size-1, -1), powerAnd(size-1, 0)} {
				list := slices.Concat(slices.Repeat([]uint64{maxWord}, attempts*count), wordsOf(n, count), []uint64{7})
				checkBelowNat(t, draw.Words{List: list}, fromBig(powerAnd(size-1, 1)), fromBig(n), (attempts+1)*count, api.OK)
			}
		}
	}
}

// What is answered is a natural, of few limbs too where the bound has many.
func TestBelowNatIsNatural(t *testing.T) {
	eachSize(func(size int, bound *big.Int) {
		count := (size + 63) / 64
		for _, bit := range []int{0, 1, 31, 32, 63, 64, 65, size / 2} {
			if bit >= size-1 {
				continue
			}
			n := powerAnd(bit, 0)
			list := wordsOf(n, count)
			got, _, e := draw.BelowNat(draw.Words{List: list}, fromBig(bound))
			if !nat.Right(got) || toBig(got).Cmp(n) != 0 || e != api.OK {
				t.Fatalf("2^%d, below %v: %v, %d", bit, bound, got, e)
			}
		}
	})
}

// P7.1: BelowNat's errors, and which one is first

func TestBelowNatOfNoNatural(t *testing.T) {
	words := []draw.Words{{}, {List: []uint64{}}, {List: []uint64{0}}, {List: []uint64{1, 2}, At: 2}, {List: make([]uint64, 50), At: 3}}
	for _, bound := range wrongNats() {
		for _, w := range append(words, wrongWords()...) {
			checkBelowNat(t, w, bound, nil, w.At, api.ErrArg)
		}
	}
}

func TestBelowNatOfWrongAt(t *testing.T) {
	for _, w := range wrongWords() {
		for _, bound := range []api.Nat{{1}, {2}, {3}, {0, 1}, {0, 0, 1}, {1, 0, 1}, {0, 0, 0, 0, 1}, most()} {
			checkBelowNat(t, w, bound, nil, w.At, api.ErrArg)
		}
	}
}

// R1: what is answered is new memory, as far as it can be written into.
func TestBelowNatIsNew(t *testing.T) {
	list := []uint64{maxWord, maxWord, 1<<32 | 3, 1}
	bound := api.Nat{7, 0, 2, 1}
	w := draw.Words{List: list}
	n, _, e := draw.BelowNat(w, bound)
	if e != api.OK || !slices.Equal(n, api.Nat{3, 1, 1}) {
		t.Fatalf("%v, %d", n, e)
	}
	for i := range n {
		n[i] = 99
	}
	if !slices.Equal(list, []uint64{maxWord, maxWord, 1<<32 | 3, 1}) || !slices.Equal(bound, api.Nat{7, 0, 2, 1}) {
		t.Errorf("%v and %v", list, bound)
	}
	checkBelowNat(t, w, bound, api.Nat{3, 1, 1}, 4, api.OK)
}

// R3: what failed may be asked once more, and words that failed for one bound do for another one.
func TestBelowAfterErrors(t *testing.T) {
	w := draw.Words{List: []uint64{7, 6, 5}}
	for range 3 {
		checkBelow(t, w, 5, 0, 0, api.ErrDry)
		_, w, _ = draw.Below(w, 5)
		checkBelowNat(t, w, api.Nat{5}, nil, 0, api.ErrDry)
		_, w, _ = draw.BelowNat(w, api.Nat{5})
		checkBelowNat(t, w, api.Nat{1, 0, 0, 0, 0, 0, 1}, nil, 0, api.ErrDry)
		_, w, _ = draw.BelowNat(w, api.Nat{1, 0, 0, 0, 0, 0, 1})
		_, w, _ = draw.BelowNat(w, api.Nat{0})
		_, w, _ = draw.BelowNat(w, nil)
	}
	checkBelow(t, w, 6, 5, 3, api.OK)
	checkBelow(t, w, 8, 7, 1, api.OK)
}
