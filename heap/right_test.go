package heap_test

import (
	"slices"
	"strings"
	"testing"

	"samphire/api"
	"samphire/heap"
)

// P11.1: Right

func TestRight(t *testing.T) {
	checkRight(t, ones(3, 1, 2), true)
	checkRight(t, ones(3, 2, 1), true)
	checkRight(t, ones(1, 2, 3), false)
	checkRight(t, ones(2, 1, 3), false)
	checkRight(t, ones(2, 3, 1), false)
	checkRight(t, ones(9, 8, 5, 1, 3, 2), true)
	// only the one above counts, not those beside it, nor those above that are not on the way
	checkRight(t, ones(9, 3, 8, 1, 2, 7, 6), true)
	checkRight(t, ones(9, 3, 8, 1, 2, 7, 6, 1, 0, 2, 1, 7, 6, 6, 5), true)
}

func TestRightOfFew(t *testing.T) {
	if !heap.Right(nil) || !heap.Right([]api.Item{}) {
		t.Errorf("none: no heap")
	}
	checkRight(t, nil, true)
	checkRight(t, []api.Item{item("", 0, 1)}, true)
	checkRight(t, []api.Item{item(strings.Repeat("x", 64), maxWord, maxWord)}, true)
	checkRight(t, ones(2, 1), true)
	checkRight(t, ones(1, 2), false)
}

// Equal in rank, the Key decides; equal in that too, neither stands behind the other, whatever the numbers.
func TestRightOfEqual(t *testing.T) {
	checkRight(t, []api.Item{item("a", 1, 2), item("a", 2, 4), item("a", 1, 2)}, true)
	checkRight(t, []api.Item{item("a", 2, 4), item("a", 1, 2), item("a", maxWord-1, maxWord)}, false)
	checkRight(t, []api.Item{item("a", 2, 4), item("", 1, 2), item("\x00", 3, 6)}, true)
	checkRight(t, []api.Item{item("a", 2, 4), item("", 1, 2), item("a\x00", 3, 6)}, false)
	checkRight(t, []api.Item{item("b", 2, 4), item("ab", 1, 2)}, true)
	checkRight(t, []api.Item{item("ab", 2, 4), item("b", 1, 2)}, false)
	checkRight(t, []api.Item{item("\x80", 0, 4), item("\x7f", 0, 2)}, true)
	checkRight(t, []api.Item{item("\x7f", 0, 4), item("\x80", 0, 2)}, false)
	checkRight(t, slices.Repeat([]api.Item{item("a", 7, 7)}, 40), true)
}

// Products that 64 bits don't hold, and such as are apart by 1.
func TestRightOfGreatProducts(t *testing.T) {
	checkRight(t, []api.Item{item("a", 1<<32, 1), item("b", 1<<33, 1<<32)}, true)
	checkRight(t, []api.Item{item("a", 1<<33, 1<<32), item("b", 1<<32, 1)}, false)
	checkRight(t, []api.Item{item("a", maxWord, maxWord), item("b", maxWord-1, maxWord)}, true)
	checkRight(t, []api.Item{item("a", maxWord-1, maxWord), item("a", maxWord, maxWord)}, false)
	checkRight(t, []api.Item{item("a", maxWord-1, maxWord), item("b", maxWord-2, maxWord-1)}, true)
	checkRight(t, []api.Item{item("b", maxWord-2, maxWord-1), item("a", maxWord-1, maxWord)}, false)
}

func TestRightOfHeaps(t *testing.T) {
	for _, h := range heaps() {
		checkRight(t, h, true)
	}
}

// All short lists: heaps are those of which no place stands behind the one above it.
func TestRightOfAllLists(t *testing.T) {
	heaps := 0
	for _, l := range four(6) {
		want := modelRight(l)
		checkRight(t, l, want)
		if want {
			heaps++
		}
	}
	if heaps < 300 {
		t.Errorf("only %d are heaps", heaps)
	}
}

// eachBroken goes through lists that are no heap, as one, at each place, stands behind the one above it.
func eachBroken(do func(l []api.Item)) {
	for _, size := range []int{2, 3, 4, 5, 6, 7, 8, 16, 33} {
		for i := 1; i < size; i++ {
			// behind by its rank, by its Key, or just so
			for _, x := range []api.Item{item("", 8, 14), item("c", 1, 2), item("b\x00", 2, 4), item("", maxWord/2+1, maxWord)} {
				l := slices.Repeat([]api.Item{item("b", 1, 2)}, size)
				l[i] = x
				do(l)
			}
		}
		// the one above stands ahead of what is below it
		for i := 0; 2*i+1 < size; i++ {
			l := slices.Repeat([]api.Item{item("b", 1, 2)}, size)
			l[i] = item("b", 1, 3)
			do(l)
		}
	}
}

// eachWrong goes through heaps of which one, at each place, may not be.
func eachWrong(do func(l []api.Item)) {
	m := mix(2)
	for _, size := range []int{1, 2, 3, 6, 7, 20} {
		for i := range size {
			for _, bad := range wrong() {
				l := m.heap(size, m.far)
				l[i] = bad
				do(l)
			}
		}
	}
	// none stands behind the one above it: nothing else is wrong
	for i := range 7 {
		for _, bad := range []api.Item{item(strings.Repeat("a", 65), 1, 2), item("a", 0, 0)} {
			l := slices.Concat(slices.Repeat([]api.Item{item("b", 1, 2)}, i), []api.Item{bad}, slices.Repeat([]api.Item{item("a", 1, 2)}, 6-i))
			do(l)
		}
	}
	for _, bad := range wrong() {
		do(slices.Repeat([]api.Item{bad}, 5))
	}
}

func TestOfNoHeap(t *testing.T) {
	eachBroken(func(l []api.Item) { checkNone(t, l) })
}

func TestOfWhatMayNotBe(t *testing.T) {
	eachWrong(func(l []api.Item) { checkNone(t, l) })
}

func TestOfLongNoHeap(t *testing.T) {
	m := mix(3)
	h := m.heap(2000, m.far)
	for _, i := range []int{0, 1, 2, 999, 1000, 1998, 1999} {
		for _, bad := range append(wrong(), item("z", maxWord, 1)) {
			if i == 0 && bad.W == 1 && bad.Key == "z" {
				continue // nothing stands behind that
			}
			was := h[i]
			h[i] = bad
			checkRight(t, h, false)
			checkPop(t, h, api.Item{}, h, api.ErrArg)
			checkDown(t, h, nil)
			h[i] = was
		}
	}
	checkRight(t, h, true)
}

// P11.1: Find

func TestFind(t *testing.T) {
	h := ones(9, 8, 5, 1, 3, 2)
	for i, x := range h {
		checkFind(t, h, x.Key, i, true)
	}
	for _, key := range []string{"", "0", "4", "99", "9\x00", "x", strings.Repeat("9", 65), strings.Repeat("9", 1<<16)} {
		checkFind(t, h, key, 0, false)
	}
}

func TestFindInFew(t *testing.T) {
	for _, key := range []string{"", "a", strings.Repeat("x", 65)} {
		if i, ok := heap.Find(nil, key); i != 0 || ok {
			t.Errorf("Find in none: %d, %v", i, ok)
		}
		checkFind(t, nil, key, 0, false)
	}
	// 0 and true, not 0 and false
	checkFind(t, []api.Item{item("a", 1, 1)}, "a", 0, true)
	checkFind(t, []api.Item{item("a", 1, 1)}, "", 0, false)
	checkFind(t, []api.Item{item("", 0, 1)}, "", 0, true)
	checkFind(t, []api.Item{item("", 0, 1)}, "a", 0, false)
	checkFind(t, ones(2, 1), "1", 1, true)
	// what is behind a list is not of it
	checkFind(t, ones(2, 1), "behind", 0, false)
}

// Of several, the first place, wherever its rank stands.
func TestFindTheFirst(t *testing.T) {
	h := []api.Item{item("c", 9, 1), item("a", 3, 1), item("b", 8, 1), item("a", 2, 1), item("b", 2, 1), item("a", 7, 1), item("b", 1, 1), item("c", 1, 1)}
	checkFind(t, h, "a", 1, true)
	checkFind(t, h, "b", 2, true)
	checkFind(t, h, "c", 0, true)
	checkFind(t, slices.Repeat([]api.Item{item("a", 7, 7)}, 40), "a", 0, true)
	checkFind(t, append(ones(9, 8, 7), slices.Repeat([]api.Item{item("a", 1, 1)}, 4)...), "a", 3, true)
}

// Keys are told apart byte by byte.
func TestFindByBytes(t *testing.T) {
	x, y := strings.Repeat("x", 64), strings.Repeat("x", 63)+"y"
	h := []api.Item{item(y, 1, 1), item(x, 1, 1), item(x[:63], 1, 1), item("a", 1, 1), item("A", 1, 1), item("a\x00", 0, 1), item("\x00", 0, 1), item("\xff", 0, 1), item("", 0, 1), item("ü", 0, 1)}
	for i, one := range h {
		checkFind(t, h, one.Key, i, true)
	}
	for _, key := range []string{x + "x", x[:62], "ä", "\xc3", "\x00\x00", "a\x00\x00", "\xfe"} {
		checkFind(t, h, key, 0, false)
	}
}

func TestFindInHeaps(t *testing.T) {
	for _, h := range heaps() {
		for _, x := range h {
			i, ok := modelFind(h, x.Key)
			if !ok {
				t.Fatalf("the model has no %q", x.Key)
			}
			checkFind(t, h, x.Key, i, true)
		}
		checkFind(t, h, "none", 0, false)
	}
}

func TestFindInAllLists(t *testing.T) {
	for _, l := range four(5) {
		for _, key := range []string{"", "a", "b", "c"} {
			i, ok := modelFind(l, key)
			checkFind(t, l, key, i, ok)
		}
	}
}
