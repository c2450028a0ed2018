package draw_test

import (
	"math/big"
	"testing"

	"samphire/api"
	"samphire/draw"
	"samphire/nat"
)

// P7.2: each number below a bound comes of as many words as each other one

const fewBounds = 70

// eachSmall hands out each small bound but 1, of which no word is taken, and its mask.
func eachSmall(do func(bound, mask uint64)) {
	for bound := uint64(2); bound <= fewBounds; bound++ {
		do(bound, modelMask(bigOf(bound)).Uint64())
	}
}

// below asks both calls, which are to say the same, and tells how many words were taken.
func below(t *testing.T, list []uint64, bound uint64) (uint64, int, api.Errno) {
	t.Helper()
	n, w, e := draw.Below(draw.Words{List: list}, bound)
	natural, v, natE := draw.BelowNat(draw.Words{List: list}, nat.Of(bound))
	if toBig(natural).Cmp(bigOf(n)) != 0 || v.At != w.At || natE != e {
		t.Fatalf("%v below %d: %d, %d, %d, and %v, %d, %d", list, bound, n, w.At, e, natural, v.At, natE)
	}
	return n, w.At, e
}

func checkAlike(t *testing.T, told map[uint64]int, bound uint64, want int) {
	t.Helper()
	for n := range bound {
		if told[n] != want {
			t.Errorf("below %d: %d comes %d times, not %d", bound, n, told[n], want)
		}
	}
	for n := range told {
		if n >= bound {
			t.Errorf("below %d: %d", bound, n)
		}
	}
}

// Of all words up to the mask, each number comes of just one, and all others are none's.
func TestEachOfOneWord(t *testing.T) {
	eachSmall(func(bound, mask uint64) {
		told, dry := map[uint64]int{}, 0
		for word := range mask + 1 {
			n, at, e := below(t, []uint64{word}, bound)
			if e != api.OK {
				dry++
				continue
			}
			if at != 1 {
				t.Errorf("%d below %d: %d words", word, bound, at)
			}
			told[n]++
		}
		checkAlike(t, told, bound, 1)
		if dry != int(mask+1-bound) {
			t.Errorf("below %d: %d words are no number", bound, dry)
		}
	})
}

// Whatever stands above the mask, it is so.
func TestEachWhateverIsAbove(t *testing.T) {
	m := mix(8)
	eachSmall(func(bound, mask uint64) {
		for range 20 {
			above, told := m.word()&^mask, map[uint64]int{}
			for word := range mask + 1 {
				if n, _, e := below(t, []uint64{above | word}, bound); e == api.OK {
					told[n]++
				}
			}
			checkAlike(t, told, bound, 1)
		}
	})
}

// Of all two words and all three, each number comes of as many whose first attempt it is, whose second one, and whose third.
func TestEachOfSomeWords(t *testing.T) {
	for bound := uint64(2); bound <= 9; bound++ {
		mask := modelMask(bigOf(bound)).Uint64()
		told := map[int]map[uint64]int{1: {}, 2: {}, 3: {}}
		for a := range mask + 1 {
			for b := range mask + 1 {
				for c := range mask + 1 {
					if n, at, e := below(t, []uint64{a, b, c}, bound); e == api.OK {
						told[at][n]++
					}
				}
			}
		}
		all, fail := int(mask+1), int(mask+1-bound)
		checkAlike(t, told[1], bound, all*all)
		checkAlike(t, told[2], bound, fail*all)
		checkAlike(t, told[3], bound, fail*fail)
	}
}

// A mask of several words: the numbers are many, but each is the words' own bits, so that no two of them share any.
func TestEachIsItsOwnWords(t *testing.T) {
	m := mix(9)
	for _, size := range []int{63, 64, 65, 66, 96, 127, 128, 129, 130, 192, 193, 2048} {
		count := (size + 63) / 64
		bound := m.number(size)
		for range 500 {
			n := m.number(1 + m.below(size))
			want, at, e := fromBig(n), count, api.OK
			if n.Cmp(bound) >= 0 {
				want, at, e = nil, 0, api.ErrDry
			}
			checkBelowNat(t, draw.Words{List: wordsOf(n, count)}, fromBig(bound), want, at, e)
		}
	}
}

// A bit of a word that is of the mask turns just the number's; one that is above turns nothing.
func TestEachBitIsOneBit(t *testing.T) {
	for _, size := range []int{1, 2, 31, 32, 33, 63, 64, 65, 95, 96, 97, 127, 128, 129, 2047} {
		count := (size + 63) / 64
		for bit := range 64 * count {
			want := new(big.Int)
			if bit < size {
				want = powerAnd(bit, 0)
			}
			list := wordsOf(powerAnd(bit, 0), count)
			checkBelowNat(t, draw.Words{List: list}, fromBig(powerAnd(size, 0)), fromBig(want), count, api.OK)
			if size < 64 {
				checkBelow(t, draw.Words{List: list}, 1<<size, want.Uint64(), count, api.OK)
			}
		}
	}
}

// A mask of 65 bits: 2^64 numbers of the upper bit 0, and some of 1, of which each one comes once.
func TestEachAboveOneWord(t *testing.T) {
	const more = 40
	bound := fromBig(powerAnd(64, more))
	told := map[string]int{}
	for high := range uint64(2) {
		for low := range uint64(2 * more) {
			n, _, e := draw.BelowNat(draw.Words{List: []uint64{low, high | 6}}, bound)
			if (e == api.OK) != (high == 0 || low < more) {
				t.Errorf("%d, %d: %d", low, high, e)
			}
			if e == api.OK {
				told[nat.Text(n)]++
			}
		}
	}
	if len(told) != 3*more {
		t.Errorf("%d numbers", len(told))
	}
}
