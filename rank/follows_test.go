package rank_test

import (
	"testing"

	"samphire/api"
	"samphire/rank"
	"samphire/rat"
)

// P10.3: of items that may be the order goes through; it is that of the ranks.

// some are items that may be: of the edges, with Keys of which some are equal.
func some() []api.Item {
	m := mix(8)
	var list []api.Item
	for _, x := range pairs() {
		if x.W != 0 && m.below(6) == 0 {
			x.Key = m.key(1)
			list = append(list, x)
		}
	}
	return append(append(list, m.items(60, m.close)...), m.items(20, m.far)...)
}

func TestOrderGoesThrough(t *testing.T) {
	list := some()
	for _, a := range list {
		for _, b := range list {
			for _, c := range list {
				checkGoesThrough(t, a, b, c)
			}
		}
	}
}

func checkGoesThrough(t *testing.T, a, b, c api.Item) {
	t.Helper()
	first, second, both := rank.Cmp(a, b), rank.Cmp(b, c), rank.Cmp(a, c)
	if first*second < 0 {
		return
	}
	// both the same way, or one of them 0
	if want := sign(first + second); both != want {
		t.Fatalf("%s: %d and %d, but %d", shown(a, b, c), first, second, both)
	}
}

func TestOrderIsThatOfRanks(t *testing.T) {
	list := some()
	for _, a := range list {
		for _, b := range list {
			checkIsThatOfRanks(t, a, b)
		}
	}
	m := mix(9)
	for range 3000 {
		checkIsThatOfRanks(t, m.close(), m.close())
		checkIsThatOfRanks(t, m.far(), m.far())
	}
}

func checkIsThatOfRanks(t *testing.T, a, b api.Item) {
	t.Helper()
	want, e := rat.Cmp(rankOf(t, a), rankOf(t, b))
	if e != api.OK {
		t.Fatalf("ranks of %s: %d", shown(a, b), e)
	}
	if want == 0 {
		want = modelKeys(a.Key, b.Key)
	}
	checkCmp(t, a, b, want)
}

func rankOf(t *testing.T, x api.Item) api.Rat {
	t.Helper()
	r, e := rank.Rank(x)
	if e != api.OK || !rat.Right(r) {
		t.Fatalf("Rank of %s: %v, %d", shown(x), r, e)
	}
	return r
}

// Sorted lists have ranks that never become less, and stay, when they are sorted again.
func TestSortedByRanks(t *testing.T) {
	for _, l := range lists() {
		got := rank.Sort(l)
		for i := 1; i < len(got); i++ {
			if order, e := rat.Cmp(rankOf(t, got[i-1]), rankOf(t, got[i])); order > 0 || e != api.OK {
				t.Fatalf("in order: %s", shown(got[i-1], got[i]))
			}
		}
		checkSort(t, got, got)
		for _, n := range []int{1, len(l) / 2, len(l) - 1} {
			checkLeast(t, rank.Least(l, n+1), n, rank.Least(l, n))
		}
	}
}
