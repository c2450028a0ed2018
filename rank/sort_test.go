package rank_test

import (
	"math"
	"slices"
	"testing"

	"samphire/api"
	"samphire/rank"
)

// P10.2: Sort

func checkSort(t *testing.T, l, want []api.Item) {
	t.Helper()
	checkItems(t, "Sort", l, sorted(t, l), want)
}

func TestSort(t *testing.T) {
	// the chapter's example
	checkSort(t, []api.Item{item("", 5, 2), item("", 6, 3)}, []api.Item{item("", 6, 3), item("", 5, 2)})
	checkSort(t, []api.Item{item("", 6, 3), item("", 5, 2)}, []api.Item{item("", 6, 3), item("", 5, 2)})

	checkSort(t, []api.Item{item("c", 9, 3), item("b", 1, 1), item("a", 2, 2), item("d", 0, 7), item("e", 1, 2)},
		[]api.Item{item("d", 0, 7), item("e", 1, 2), item("a", 2, 2), item("b", 1, 1), item("c", 9, 3)})
}

func TestSortOfFew(t *testing.T) {
	checkSort(t, nil, nil)
	checkSort(t, []api.Item{}, nil)
	checkSort(t, []api.Item{item("a", 3, 2)}, []api.Item{item("a", 3, 2)})
	checkSort(t, []api.Item{item("", 0, 1)}, []api.Item{item("", 0, 1)})
}

// Those that are equal in rank and Key stand in the order of the list, whatever their numbers.
func TestSortOfEqual(t *testing.T) {
	checkSort(t, []api.Item{item("a", 2, 4), item("a", 1, 2), item("a", 3, 6)}, []api.Item{item("a", 2, 4), item("a", 1, 2), item("a", 3, 6)})
	checkSort(t, []api.Item{item("a", 3, 6), item("b", 1, 2), item("a", 1, 2), item("b", 2, 4), item("a", 2, 4)},
		[]api.Item{item("a", 3, 6), item("a", 1, 2), item("a", 2, 4), item("b", 1, 2), item("b", 2, 4)})
	checkSort(t, []api.Item{item("a", 0, 9), item("a", 0, 3), item("a", 0, 5)}, []api.Item{item("a", 0, 9), item("a", 0, 3), item("a", 0, 5)})
	checkSort(t, []api.Item{item("a", maxWord, maxWord), item("a", 1, 1)}, []api.Item{item("a", maxWord, maxWord), item("a", 1, 1)})
	checkSort(t, []api.Item{item("a", 1, 1), item("a", 1, 1)}, []api.Item{item("a", 1, 1), item("a", 1, 1)})
}

// The edges, that go by their ranks, and then by their Keys.
func TestSortOfEdges(t *testing.T) {
	var l []api.Item
	m := mix(4)
	for _, x := range pairs() {
		if x.W != 0 {
			x.Key = keys()[m.below(len(keys()))]
			l = append(l, x)
		}
	}
	checkSort(t, l, modelSort(l))

	l = nil
	for _, key := range keys() {
		l = append(l, item(key, 2, 3), item(key, maxWord, maxWord), item(key, 1, 1), item(key, 6, 9))
	}
	checkSort(t, l, modelSort(l))
}

func TestSortOfLists(t *testing.T) {
	for _, l := range lists() {
		checkSort(t, l, modelSort(l))
	}
}

// Of long lists: U and W are times a number of the place's own, so that what is equal tells where it was.
func TestSortOfLong(t *testing.T) {
	m := mix(5)
	for _, size := range []int{1000, 5000, 30000} {
		l := make([]api.Item, size)
		places := map[api.Item]int{}
		for i := range l {
			// 1 beyond a number that 6 goes in: what is up to 3 times such a one is not so of another one.
			times := uint64(6*i + 1)
			l[i] = item(m.key(1), uint64(m.below(4))*times, uint64(1+m.below(3))*times)
			places[l[i]] = i
		}
		checkLong(t, sorted(t, l), places)
	}
}

// checkLong asks for all items of the places, and each but once.
func checkLong(t *testing.T, got []api.Item, places map[api.Item]int) {
	t.Helper()
	if len(got) != len(places) {
		t.Fatalf("%d, not %d", len(got), len(places))
	}
	before := -1
	for i, x := range got {
		place, ok := places[x]
		if !ok {
			t.Fatalf("at %d: %s", i, shown(x))
		}
		delete(places, x)
		if i > 0 {
			if order := modelCmp(got[i-1], x); order > 0 || order == 0 && before > place {
				t.Fatalf("at %d: %s", i-1, shown(got[i-1], x))
			}
		}
		before = place
	}
}

// Of items that are apart, each order tells the same.
func TestSortOfAllOrders(t *testing.T) {
	want := []api.Item{item("b", 0, 5), item("", 1, maxWord), item("a", 1, 2), item("ab", 2, 4), item("b", 1, 2), item("", maxWord-1, maxWord), item("", 1, 1)}
	eachOrder(want, func(l []api.Item) { checkSort(t, l, want) })
}

// And of those that are not, the model tells in each.
func TestSortOfAllOrdersOfEqual(t *testing.T) {
	list := []api.Item{item("a", 1, 2), item("a", 2, 4), item("b", 1, 2), item("a", 3, 6), item("b", 5, 10), item("", 4, 8)}
	eachOrder(list, func(l []api.Item) { checkSort(t, l, modelSort(l)) })
}

// eachWrong goes through lists in which one item may not be, at each place.
func eachWrong(do func(l []api.Item)) {
	m := mix(6)
	for _, size := range []int{1, 2, 3, 8, 30} {
		for at := range size {
			for _, bad := range wrong() {
				l := m.items(size, m.far)
				l[at] = bad
				do(l)
			}
		}
	}
}

func TestSortOfWhatMayNotBe(t *testing.T) {
	eachWrong(func(l []api.Item) { checkSort(t, l, nil) })
	m := mix(7)
	l := m.items(2000, m.far)
	for _, at := range []int{0, 1, 999, 1998, 1999} {
		for _, bad := range wrong() {
			was := l[at]
			l[at] = bad
			checkSort(t, l, nil)
			l[at] = was
		}
	}
	checkSort(t, wrong(), nil)
}

// P10.2: Least

func checkLeast(t *testing.T, l []api.Item, n int, want []api.Item) {
	t.Helper()
	checkItems(t, "Least", l, least(t, l, n), want)
}

func TestLeast(t *testing.T) {
	l := []api.Item{item("c", 9, 3), item("b", 1, 1), item("a", 2, 2), item("d", 6, 3), item("e", 5, 2)}
	want := []api.Item{item("a", 2, 2), item("b", 1, 1), item("d", 6, 3), item("e", 5, 2), item("c", 9, 3)}
	for n := range 6 {
		checkLeast(t, l, n, want[:n])
	}
	for _, n := range []int{6, 7, 100, 1 << 32, math.MaxInt} {
		checkLeast(t, l, n, want)
	}
	for _, n := range []int{0, -1, -2, -5, -1 << 32, math.MinInt, math.MinInt + 1} {
		checkLeast(t, l, n, nil)
	}
}

// ns are below 0, 0, all up to two more than there are, and great ones.
func ns(size int) []int {
	list := []int{-1, -size, math.MinInt, math.MaxInt, 1 << 31, 1 << 32, 1<<32 + 1}
	for n := range size + 3 {
		list = append(list, n)
	}
	return list
}

func TestLeastOfFew(t *testing.T) {
	for _, n := range ns(2) {
		checkLeast(t, nil, n, nil)
		checkLeast(t, []api.Item{}, n, nil)
	}
	one := []api.Item{item("a", 3, 2)}
	checkLeast(t, one, -1, nil)
	checkLeast(t, one, 0, nil)
	checkLeast(t, one, 1, one)
	checkLeast(t, one, 2, one)
}

// Of those that are equal, the first ones of the list.
func TestLeastOfEqual(t *testing.T) {
	l := []api.Item{item("a", 3, 6), item("a", 1, 2), item("", 1, 1), item("a", 2, 4)}
	checkLeast(t, l, 1, l[:1])
	checkLeast(t, l, 2, l[:2])
	checkLeast(t, l, 3, []api.Item{l[0], l[1], l[3]})
	checkLeast(t, l, 4, []api.Item{l[0], l[1], l[3], l[2]})
}

func TestLeastOfLists(t *testing.T) {
	for _, l := range lists() {
		if len(l) > 100 {
			continue
		}
		want := modelSort(l)
		for _, n := range ns(len(l)) {
			checkLeast(t, l, n, want[:min(max(n, 0), len(l))])
		}
	}
}

// Of lists with one that may not be nothing, be it that the first ones may be.
func TestLeastOfWhatMayNotBe(t *testing.T) {
	eachWrong(func(l []api.Item) {
		for _, n := range []int{math.MinInt, -1, 0, 1, len(l) - 1, len(l), len(l) + 1, math.MaxInt} {
			checkLeast(t, l, n, nil)
		}
	})
	checkLeast(t, wrong(), 3, nil)
}

// R1: what is answered is new memory, and the list handed in, and what is behind it, stay.

func TestListsShareNothing(t *testing.T) {
	for name, call := range map[string]func(l []api.Item) []api.Item{
		"Sort":  rank.Sort,
		"Least": func(l []api.Item) []api.Item { return rank.Least(l, len(l)) },
	} {
		for _, all := range lists() {
			checkSharesNothing(t, name, all, call)
		}
	}
}

func checkSharesNothing(t *testing.T, name string, all []api.Item, call func(l []api.Item) []api.Item) {
	t.Helper()
	was := slices.Clone(all)
	l := all[:len(all)/2]
	one, other := call(l), call(l)
	want := modelSort(l)
	checkItems(t, name, l, one, want)
	checkItems(t, name+", what it left of", was, all, was)

	for i := range one {
		one[i] = item("written", 7, 7)
	}
	_ = append(one, item("behind", 8, 8))
	checkItems(t, name+", once more", l, other, want)
	checkItems(t, "who wrote in what "+name+" told of", was, all, was)

	for i := range l {
		l[i] = item("written", 9, 9)
	}
	checkItems(t, name+", of a list written over", l, other, want)
}

// A piece of a list has behind it what no call may look at.
func TestOfAPiece(t *testing.T) {
	all := []api.Item{item("c", 3, 1), item("b", 2, 1), item("a", 1, 1), {}}
	checkSort(t, all[:2], []api.Item{item("b", 2, 1), item("c", 3, 1)})
	checkLeast(t, all[:2], 3, []api.Item{item("b", 2, 1), item("c", 3, 1)})
	checkSort(t, all[1:3], []api.Item{item("a", 1, 1), item("b", 2, 1)})
	checkSort(t, all, nil)
}
