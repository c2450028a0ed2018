package draw_test

import (
	"math"
	"math/big"
	"testing"

	"samphire/api"
	"samphire/draw"
)

// P7.1: Left

func TestLeft(t *testing.T) {
	for count := range 20 {
		list := make([]uint64, count)
		for at := range count + 1 {
			if got := draw.Left(draw.Words{List: list, At: at}); got != count-at {
				t.Errorf("%d of %d: %d", at, count, got)
			}
		}
	}
	if got := draw.Left(draw.Words{}); got != 0 {
		t.Errorf("of no words: %d", got)
	}
}

func TestLeftOfWrong(t *testing.T) {
	for _, w := range wrongWords() {
		if got := draw.Left(w); got != 0 {
			t.Errorf("%d of %d: %d", w.At, len(w.List), got)
		}
	}
}

// What lies behind a list, in its array, is none of the words.
func TestLeftOfPiece(t *testing.T) {
	list := []uint64{1, 2, 3, 4, 5}[:2]
	for at, want := range []int{2, 1, 0, 0, 0, 0} {
		if got := draw.Left(draw.Words{List: list, At: at}); got != want {
			t.Errorf("%d of 2: %d, not %d", at, got, want)
		}
	}
	checkBelow(t, draw.Words{List: list, At: 2}, 8, 0, 2, api.ErrDry)
	checkBelow(t, draw.Words{List: list, At: 3}, 8, 0, 3, api.ErrArg)
	checkBelowNat(t, draw.Words{List: list, At: 1}, api.Nat{0, 0, 1}, api.Nat{2}, 2, api.OK)
	checkBelowNat(t, draw.Words{List: list, At: 1}, api.Nat{0, 0, 2}, nil, 1, api.ErrDry)
}

// P7.1: Below

func TestBelowExample(t *testing.T) {
	checkBelow(t, draw.Words{List: []uint64{13, 14, 9}}, 5, 1, 3, api.OK)
	checkBelowNat(t, draw.Words{List: []uint64{13, 14, 9}}, api.Nat{5}, api.Nat{1}, 3, api.OK)
}

func TestBelowOfKnown(t *testing.T) {
	for _, c := range []struct {
		list  []uint64
		at    int
		bound uint64
		want  uint64
		then  int
		e     api.Errno
	}{
		{[]uint64{0}, 0, 2, 0, 1, api.OK},
		{[]uint64{1}, 0, 2, 1, 1, api.OK},
		{[]uint64{maxWord}, 0, 2, 1, 1, api.OK},
		{[]uint64{3, 2}, 0, 3, 2, 2, api.OK},
		{[]uint64{7, 7, 7, 6}, 0, 7, 6, 4, api.OK},
		{[]uint64{7}, 0, 8, 7, 1, api.OK},
		{[]uint64{8}, 0, 8, 0, 1, api.OK},
		{[]uint64{15, 9, 8}, 0, 9, 8, 3, api.OK},
		{[]uint64{0, 0, 2}, 2, 3, 2, 3, api.OK},
		{[]uint64{0, 3, 0}, 1, 3, 0, 3, api.OK},
		{[]uint64{0, 1, 3}, 2, 3, 0, 2, api.ErrDry},
		{[]uint64{0, 1, 3, 3, 3}, 2, 3, 0, 2, api.ErrDry},
		{[]uint64{0}, 1, 2, 0, 1, api.ErrDry},
		{[]uint64{1<<63 + 5}, 0, 1 << 63, 5, 1, api.OK},
		{[]uint64{maxWord, 1<<63 + 1, 1 << 63}, 0, 1<<63 + 1, 1 << 63, 3, api.OK},
		{[]uint64{maxWord, maxWord - 1}, 0, maxWord, maxWord - 1, 2, api.OK},
	} {
		checkBelow(t, draw.Words{List: c.list, At: c.at}, c.bound, c.want, c.then, c.e)
	}
}

// The words stand one behind the other, in one draw and from one to the next.
func TestBelowOneBehindTheOther(t *testing.T) {
	w := draw.Words{List: []uint64{4, 3, 100, 1 << 40, 6, 5, 9, 0}}
	for _, c := range []struct {
		bound, want uint64
		at          int
		e           api.Errno
	}{
		{10, 4, 1, api.OK}, {1, 0, 1, api.OK}, {3, 0, 3, api.OK}, {1 << 41, 1 << 40, 4, api.OK}, {0, 0, 4, api.ErrZero},
		{6, 5, 6, api.OK}, {10, 9, 7, api.OK}, {1, 0, 7, api.OK}, {2, 0, 8, api.OK}, {2, 0, 8, api.ErrDry}, {1, 0, 8, api.OK},
	} {
		checkBelow(t, w, c.bound, c.want, c.at, c.e)
		_, w, _ = draw.Below(w, c.bound)
		if got := draw.Left(w); got != 8-c.at {
			t.Errorf("at %d: %d left", c.at, got)
		}
	}
}

// Below 1 there is 0 alone: no word is taken, whichever stand there, nor is there need of one.
func TestBelowOne(t *testing.T) {
	for _, list := range [][]uint64{nil, {}, {0}, {1}, {maxWord, 7}, {3, 2, 1}} {
		for at := range len(list) + 1 {
			checkBelow(t, draw.Words{List: list, At: at}, 1, 0, at, api.OK)
			checkBelowNat(t, draw.Words{List: list, At: at}, api.Nat{1}, nil, at, api.OK)
		}
	}
}

// Bounds that are a power of 2, one more and one less, of all that have 64 bits.
func TestBelowNearPowers(t *testing.T) {
	m := mix(1)
	for bit := range 65 {
		for _, by := range []int64{-1, 0, 1} {
			bound := powerAnd(bit, by)
			if bound.Sign() <= 0 || !bound.IsUint64() {
				continue
			}
			edgesOf(bound, func(list ...uint64) {
				for at := range len(list) + 1 {
					checkModel(t, draw.Words{List: list, At: at}, bound)
				}
			})
			for range 20 {
				checkModel(t, draw.Words{List: m.list(12), At: m.below(4)}, bound)
			}
		}
	}
}

// edgesOf hands out the words just at the bound and at the mask, alone and behind one that is not below the bound.
func edgesOf(bound *big.Int, do func(list ...uint64)) {
	n, mask := bound.Uint64(), modelMask(bound).Uint64()
	for _, word := range []uint64{0, n - 1, n, n + 1, mask, mask + 1, mask - 1, ^mask, ^mask | (n - 1), ^mask | n, maxWord} {
		do(word)
		do(mask, word)
		do(n, word, 0)
		do(maxWord, mask, word, 0, 0)
	}
}

// A bound that is a power of 2 is above all of its mask: just one word is taken, whichever it is.
func TestBelowPowersTakesOneWord(t *testing.T) {
	m := mix(2)
	for bit := 1; bit < 64; bit++ {
		for range 50 {
			word := m.word()
			checkBelow(t, draw.Words{List: []uint64{word, 0}}, 1<<bit, word%(1<<bit), 1, api.OK)
		}
	}
}

func TestBelowGreatest(t *testing.T) {
	checkBelow(t, draw.Words{List: []uint64{0}}, maxWord, 0, 1, api.OK)
	checkBelow(t, draw.Words{List: []uint64{maxWord - 1}}, maxWord, maxWord-1, 1, api.OK)
	checkBelow(t, draw.Words{List: []uint64{maxWord}}, maxWord, 0, 0, api.ErrDry)
	checkBelow(t, draw.Words{List: []uint64{maxWord, maxWord, 1 << 63}}, maxWord, 1<<63, 3, api.OK)
}

func TestBelowOfMany(t *testing.T) {
	m := mix(3)
	numbers, dry := 0, 0
	for range 30000 {
		w := draw.Words{List: m.list(m.below(6))}
		w.At = m.below(len(w.List) + 1)
		if checkModel(t, w, m.number(1+m.below(64))) {
			numbers++
		} else {
			dry++
		}
	}
	if numbers < 1000 || dry < 1000 {
		t.Errorf("%d numbers, and %d times too few words", numbers, dry)
	}
}

// As many attempts are made as there are words.
func TestBelowOfManyAttempts(t *testing.T) {
	list := make([]uint64, 1<<20)
	for i := range list {
		list[i] = maxWord
	}
	for _, bound := range []uint64{3, 1<<63 + 1, maxWord} {
		if n, w, e := draw.Below(draw.Words{List: list}, bound); n != 0 || w.At != 0 || e != api.ErrDry {
			t.Errorf("below %d: %d, %d, %d", bound, n, w.At, e)
		}
	}
	list[len(list)-1] = 2
	for _, bound := range []uint64{3, 1<<63 + 1, maxWord} {
		if n, w, e := draw.Below(draw.Words{List: list}, bound); n != 2 || w.At != len(list) || e != api.OK {
			t.Errorf("below %d: %d, %d, %d", bound, n, w.At, e)
		}
	}
}

// P7.1: Below's errors, and which one is first

func TestBelowZero(t *testing.T) {
	for _, w := range []draw.Words{{}, {List: []uint64{}}, {List: []uint64{5}}, {List: []uint64{5}, At: 1}, {List: []uint64{0, 1, 2}, At: 1}} {
		checkBelow(t, w, 0, 0, w.At, api.ErrZero)
		checkBelowNat(t, w, nil, nil, w.At, api.ErrZero)
		checkBelowNat(t, w, api.Nat{}, nil, w.At, api.ErrZero)
	}
	for _, w := range wrongWords() {
		checkBelow(t, w, 0, 0, w.At, api.ErrZero)
		checkBelowNat(t, w, nil, nil, w.At, api.ErrZero)
		checkBelowNat(t, w, api.Nat{}, nil, w.At, api.ErrZero)
	}
}

func TestBelowOfWrongAt(t *testing.T) {
	for _, w := range wrongWords() {
		for _, bound := range []uint64{1, 2, 3, 4, 5, 100, 1 << 32, 1 << 63, maxWord} {
			checkBelow(t, w, bound, 0, w.At, api.ErrArg)
		}
	}
}

func TestBelowOfNothingLeft(t *testing.T) {
	for _, list := range [][]uint64{nil, {}, {0}, {1, 2, 3}} {
		for _, bound := range []uint64{2, 3, 4, 5, 1 << 32, math.MaxInt64, maxWord} {
			checkBelow(t, draw.Words{List: list, At: len(list)}, bound, 0, len(list), api.ErrDry)
		}
	}
}

// The first attempt, the second one and so on are the one in which the words end.
func TestBelowDry(t *testing.T) {
	for _, bound := range []uint64{3, 5, 6, 100, 1<<32 + 1, 1<<63 + 1, maxWord} {
		list := []uint64{1, 2}
		for range 10 {
			checkBelow(t, draw.Words{List: list, At: 2}, bound, 0, 2, api.ErrDry)
			list = append(list, maxWord)
		}
	}
}

// R4: what was taken ahead, and what stands behind, does not count.
func TestBelowByItsWordsAlone(t *testing.T) {
	m := mix(4)
	for range 2000 {
		bound := m.number(2 + m.below(63))
		taken := m.list(1 + m.below(5))
		want, at, e := model(draw.Words{List: taken}, bound)
		if e != api.OK {
			continue
		}
		ahead, behind := m.list(m.below(4)), m.list(m.below(4))
		list := append(append(append([]uint64{}, ahead...), taken[:at]...), behind...)
		checkBelow(t, draw.Words{List: list, At: len(ahead)}, bound.Uint64(), want.Uint64(), len(ahead)+at, api.OK)
	}
}
