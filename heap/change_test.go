package heap_test

import (
	"math"
	"slices"
	"strings"
	"testing"

	"samphire/api"
	"samphire/heap"
)

// P11.2: Push

func TestPush(t *testing.T) {
	// the chapter's example
	var h []api.Item
	for _, u := range []uint64{1, 3, 2} {
		h, _ = push(t, h, item("", u, 1))
	}
	if want := []api.Item{item("", 3, 1), item("", 1, 1), item("", 2, 1)}; !slices.Equal(h, want) {
		t.Errorf("1, 3, 2: %s", shown(h...))
	}

	h = ones(9, 7, 8, 3, 5, 6, 4)
	checkPush(t, h, ones(2)[0], ones(9, 7, 8, 3, 5, 6, 4, 2), api.OK)   // stays
	checkPush(t, h, ones(4)[0], ones(9, 7, 8, 4, 5, 6, 4, 3), api.OK)   // one up
	checkPush(t, h, ones(8)[0], ones(9, 8, 8, 7, 5, 6, 4, 3), api.OK)   // two up
	checkPush(t, h, ones(10)[0], ones(10, 9, 8, 7, 5, 6, 4, 3), api.OK) // on top
}

func TestPushOntoFew(t *testing.T) {
	for _, none := range [][]api.Item{nil, {}} {
		got, e := heap.Push(none, item("a", 1, 2))
		if e != api.OK || !slices.Equal(got, []api.Item{item("a", 1, 2)}) {
			t.Errorf("Push onto none: %s, %d", shown(got...), e)
		}
	}
	longest := item(strings.Repeat("x", 64), maxWord, 1)
	checkPush(t, nil, longest, []api.Item{longest}, api.OK)
	checkPush(t, nil, item("", 0, 1), []api.Item{item("", 0, 1)}, api.OK)
	checkPush(t, ones(2), ones(1)[0], ones(2, 1), api.OK)
	checkPush(t, ones(1), ones(2)[0], ones(2, 1), api.OK)
	checkPush(t, ones(2, 1), ones(1)[0], ones(2, 1, 1), api.OK)
	checkPush(t, ones(2, 1), ones(3)[0], ones(3, 1, 2), api.OK)
	checkPush(t, ones(3, 1, 2), ones(2)[0], ones(3, 2, 2, 1), api.OK)
}

// Of one equal in rank and Key neither stands behind the other: the new one stays below it.
func TestPushOfEqual(t *testing.T) {
	one, two, three := item("a", 1, 2), item("a", 2, 4), item("a", 3, 6)
	checkPush(t, []api.Item{one}, two, []api.Item{one, two}, api.OK)
	checkPush(t, []api.Item{two}, one, []api.Item{two, one}, api.OK)
	checkPush(t, []api.Item{three, one}, two, []api.Item{three, one, two}, api.OK)
	checkPush(t, []api.Item{one, two, three}, one, []api.Item{one, two, three, one}, api.OK)
	// as far up as it stands behind them
	checkPush(t, []api.Item{one, item("", 1, 2), three}, two, []api.Item{one, two, three, item("", 1, 2)}, api.OK)
	checkPush(t, []api.Item{two, one, three}, item("aa", 1, 2), []api.Item{item("aa", 1, 2), two, three, one}, api.OK)
}

func TestPushOfWhatMayNotBe(t *testing.T) {
	long := strings.Repeat("x", 65)
	for _, h := range heaps() {
		checkPush(t, h, item("a", 1, 0), h, api.ErrZero)
		checkPush(t, h, api.Item{}, h, api.ErrZero)
		checkPush(t, h, item(long, 1, 1), h, api.ErrLong)
		checkPush(t, h, item(long, 1, 0), h, api.ErrLong)
	}
	for _, bad := range wrong() {
		checkPush(t, nil, bad, nil, modelCheck(bad))
		checkPush(t, ones(2, 1), bad, ones(2, 1), modelCheck(bad))
	}
}

func TestPushOntoHeaps(t *testing.T) {
	m := mix(4)
	for _, h := range heaps() {
		list := []api.Item{m.close(), m.far(), item("", 0, 1), item("z", maxWord, 1), item("z", 1, maxWord)}
		for range 5 {
			if len(h) > 0 {
				list = append(list, h[m.below(len(h))])
			}
		}
		for _, x := range list {
			want, e := modelPush(h, x)
			checkPush(t, h, x, want, e)
		}
	}
}

func TestPushOntoAllLists(t *testing.T) {
	for _, l := range four(6) {
		for _, x := range append(letters(), item("", 0, 1), item("", 1, 1)) {
			want, e := modelPush(l, x)
			checkPush(t, l, x, want, e)
		}
	}
}

// P11.2: Pop

func TestPop(t *testing.T) {
	checkPop(t, ones(9, 7, 8, 3, 5, 6, 4), ones(9)[0], ones(8, 7, 6, 3, 5, 4), api.OK)
	checkPop(t, ones(8, 7, 6, 3, 5, 4), ones(8)[0], ones(7, 5, 6, 3, 4), api.OK)
	checkPop(t, ones(7, 5, 6, 3, 4), ones(7)[0], ones(6, 5, 4, 3), api.OK)
	checkPop(t, ones(9, 3, 8, 1, 2, 7, 6), ones(9)[0], ones(8, 3, 7, 1, 2, 6), api.OK)
	// the last one stays in the first place
	checkPop(t, ones(5, 2, 4, 1, 1, 4), ones(5)[0], ones(4, 2, 4, 1, 1), api.OK)
}

func TestPopOfFew(t *testing.T) {
	for _, none := range [][]api.Item{nil, {}} {
		if x, others, e := heap.Pop(none); x != (api.Item{}) || len(others) != 0 || e != api.ErrNone {
			t.Errorf("Pop of none: %s, %s, %d", shown(x), shown(others...), e)
		}
	}
	checkPop(t, nil, api.Item{}, nil, api.ErrNone)
	checkPop(t, ones(1), ones(1)[0], nil, api.OK)
	checkPop(t, []api.Item{item("", 0, 1)}, item("", 0, 1), nil, api.OK)
	checkPop(t, ones(2, 1), ones(2)[0], ones(1), api.OK)
	checkPop(t, ones(3, 1, 2), ones(3)[0], ones(2, 1), api.OK)
	checkPop(t, ones(3, 2, 1), ones(3)[0], ones(2, 1), api.OK)
}

// A part is there on one side alone: it is the one that is held against what sinks.
func TestPopWithOneSideAlone(t *testing.T) {
	checkPop(t, ones(9, 6, 5, 2), ones(9)[0], ones(6, 2, 5), api.OK)
	checkPop(t, ones(9, 6, 5, 4, 2), ones(9)[0], ones(6, 4, 5, 2), api.OK)
	checkPop(t, ones(9, 6, 5, 2, 3), ones(9)[0], ones(6, 3, 5, 2), api.OK)
	checkPop(t, ones(9, 8, 7, 6, 5, 4, 3, 2, 1), ones(9)[0], ones(8, 6, 7, 2, 5, 4, 3, 1), api.OK)
	checkPop(t, ones(9, 8, 7, 6, 5, 4, 3, 1, 2), ones(9)[0], ones(8, 6, 7, 2, 5, 4, 3, 1), api.OK)
	// and if that one does not stand behind it, it stays
	checkPop(t, []api.Item{item("", 9, 1), item("a", 6, 1), item("b", 5, 1), item("c", 2, 1), item("c", 4, 2)},
		item("", 9, 1), []api.Item{item("a", 6, 1), item("c", 4, 2), item("b", 5, 1), item("c", 2, 1)}, api.OK)
}

// Where neither of both stands behind the other, the first one is the one to change places with.
func TestPopOfEqual(t *testing.T) {
	top, one, two, three := item("b", 1, 2), item("a", 1, 2), item("a", 2, 4), item("a", 3, 6)
	low := item("", 0, 1)
	checkPop(t, []api.Item{top, one, two, low}, top, []api.Item{one, low, two}, api.OK)
	checkPop(t, []api.Item{top, two, one, low}, top, []api.Item{two, low, one}, api.OK)
	checkPop(t, []api.Item{top, one, two, three, three, low}, top, []api.Item{one, three, two, low, three}, api.OK)
	// what is equal to both stays
	checkPop(t, []api.Item{top, one, two, three}, top, []api.Item{three, one, two}, api.OK)
	checkPop(t, []api.Item{one, two, three}, one, []api.Item{three, two}, api.OK)
	checkPop(t, []api.Item{three, three, one, two}, three, []api.Item{two, three, one}, api.OK)
	// one of the two stands behind it, be it the other one
	checkPop(t, []api.Item{top, two, item("aa", 1, 2), three}, top, []api.Item{item("aa", 1, 2), two, three}, api.OK)
	checkPop(t, []api.Item{top, item("aa", 1, 2), two, three}, top, []api.Item{item("aa", 1, 2), three, two}, api.OK)
}

func TestPopOfHeaps(t *testing.T) {
	for _, h := range heaps() {
		x, others, e := modelPop(h)
		checkPop(t, h, x, others, e)
	}
}

func TestPopOfAllLists(t *testing.T) {
	for _, l := range four(7) {
		x, others, e := modelPop(l)
		checkPop(t, l, x, others, e)
	}
}

// P11.2: Put

func TestPut(t *testing.T) {
	h := ones(9, 7, 8, 3, 5, 6, 4)
	// in the first place
	checkPut(t, h, 0, ones(10)[0], ones(10, 7, 8, 3, 5, 6, 4), api.OK)
	checkPut(t, h, 0, ones(8)[0], ones(8, 7, 8, 3, 5, 6, 4), api.OK)
	checkPut(t, h, 0, ones(7)[0], ones(8, 7, 7, 3, 5, 6, 4), api.OK)
	checkPut(t, h, 0, ones(1)[0], ones(8, 7, 6, 3, 5, 1, 4), api.OK)
	// in a place between
	checkPut(t, h, 1, ones(6)[0], ones(9, 6, 8, 3, 5, 6, 4), api.OK)
	checkPut(t, h, 1, ones(9)[0], ones(9, 9, 8, 3, 5, 6, 4), api.OK)
	checkPut(t, h, 1, ones(10)[0], ones(10, 9, 8, 3, 5, 6, 4), api.OK)
	checkPut(t, h, 1, ones(4)[0], ones(9, 5, 8, 3, 4, 6, 4), api.OK)
	checkPut(t, h, 2, ones(0)[0], ones(9, 7, 6, 3, 5, 0, 4), api.OK)
	// in the last place
	checkPut(t, h, 6, ones(1)[0], ones(9, 7, 8, 3, 5, 6, 1), api.OK)
	checkPut(t, h, 6, ones(8)[0], ones(9, 7, 8, 3, 5, 6, 8), api.OK)
	checkPut(t, h, 6, ones(10)[0], ones(10, 7, 9, 3, 5, 6, 8), api.OK)
	// what is there already
	for i, x := range h {
		checkPut(t, h, i, x, h, api.OK)
	}
}

func TestPutInFew(t *testing.T) {
	if got, e := heap.Put(nil, 0, item("a", 1, 1)); len(got) != 0 || e != api.ErrNone {
		t.Errorf("Put in none: %s, %d", shown(got...), e)
	}
	checkPut(t, nil, 0, item("a", 1, 1), nil, api.ErrNone)
	checkPut(t, ones(2), 0, ones(1)[0], ones(1), api.OK)
	checkPut(t, ones(2), 0, ones(3)[0], ones(3), api.OK)
	checkPut(t, ones(4, 2), 0, ones(3)[0], ones(3, 2), api.OK)
	checkPut(t, ones(4, 2), 0, ones(1)[0], ones(2, 1), api.OK)
	checkPut(t, ones(4, 2), 1, ones(3)[0], ones(4, 3), api.OK)
	checkPut(t, ones(4, 2), 1, ones(5)[0], ones(5, 4), api.OK)
	checkPut(t, ones(4, 2), 1, ones(1)[0], ones(4, 1), api.OK)
	longest := item(strings.Repeat("x", 64), 0, maxWord)
	checkPut(t, ones(4), 0, longest, []api.Item{longest}, api.OK)
}

// One that is equal to those around it stays, with its own numbers.
func TestPutOfEqual(t *testing.T) {
	one, two, three := item("a", 1, 2), item("a", 2, 4), item("a", 3, 6)
	low := item("", 0, 1)
	h := []api.Item{one, two, one, two, one, two}
	for i := range h {
		want := slices.Clone(h)
		want[i] = three
		checkPut(t, h, i, three, want, api.OK)
	}
	// not moved up by one that is equal, it is sunk: with the first one, where neither stands behind the other
	checkPut(t, []api.Item{item("b", 1, 2), one, two}, 0, low, []api.Item{one, low, two}, api.OK)
	checkPut(t, []api.Item{item("b", 1, 2), two, one}, 0, low, []api.Item{two, low, one}, api.OK)
	checkPut(t, []api.Item{one, two, one, two, three}, 1, low, []api.Item{one, two, one, low, three}, api.OK)
	checkPut(t, []api.Item{one, two, one, low, low}, 1, three, []api.Item{one, three, one, low, low}, api.OK)
	// lifted past what it stands behind, up to what is equal
	checkPut(t, []api.Item{one, low, one, low}, 3, three, []api.Item{one, three, one, low}, api.OK)
}

func TestPutInNoPlace(t *testing.T) {
	x := item("x", 1, 1)
	for _, h := range heaps() {
		for _, i := range []int{-1, -2, -len(h) - 1, math.MinInt, math.MinInt + 1, len(h), len(h) + 1, 2*len(h) + 1, 1 << 31, 1 << 32, math.MaxInt} {
			checkPut(t, h, i, x, h, api.ErrNone)
			// no place, and what may not be
			for _, bad := range []api.Item{{}, item(strings.Repeat("x", 65), 1, 1)} {
				checkPut(t, h, i, bad, h, api.ErrNone)
			}
		}
	}
}

func TestPutOfWhatMayNotBe(t *testing.T) {
	for _, h := range heaps() {
		for i := range h {
			checkPut(t, h, i, item("a", 1, 0), h, api.ErrZero)
			checkPut(t, h, i, item(strings.Repeat("x", 65), 1, 1), h, api.ErrLong)
			checkPut(t, h, i, item(strings.Repeat("x", 65), 1, 0), h, api.ErrLong)
		}
	}
	for _, bad := range wrong() {
		for i := range 3 {
			checkPut(t, ones(3, 2, 1), i, bad, ones(3, 2, 1), modelCheck(bad))
		}
	}
}

func TestPutInHeaps(t *testing.T) {
	m := mix(5)
	for _, h := range heaps() {
		for i := range h {
			for _, x := range []api.Item{m.close(), m.far(), item("", 0, 1), item("z", maxWord, 1), h[m.below(len(h))]} {
				want, e := modelPut(h, i, x)
				checkPut(t, h, i, x, want, e)
			}
		}
	}
}

func TestPutInAllLists(t *testing.T) {
	for _, l := range four(6) {
		if !modelRight(l) {
			continue
		}
		for i := -1; i <= len(l); i++ {
			for _, x := range append(letters(), item("", 0, 1), item("", 1, 1)) {
				want, e := modelPut(l, i, x)
				checkPut(t, l, i, x, want, e)
			}
		}
	}
}
