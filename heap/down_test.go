package heap_test

import (
	"slices"
	"testing"

	"samphire/api"
	"samphire/heap"
)

// P11.3: Down

func TestDown(t *testing.T) {
	checkDown(t, ones(9, 8, 5, 1, 3, 2), ones(9, 8, 5, 3, 2, 1))
	checkDown(t, ones(9, 3, 8, 1, 2, 7, 6), ones(9, 8, 7, 6, 3, 2, 1))
	checkDown(t, ones(7, 6, 5, 4, 3, 2, 1), ones(7, 6, 5, 4, 3, 2, 1))
}

func TestDownOfFew(t *testing.T) {
	for _, none := range [][]api.Item{nil, {}} {
		if got := heap.Down(none); len(got) != 0 {
			t.Errorf("Down of none: %s", shown(got...))
		}
	}
	checkDown(t, nil, nil)
	checkDown(t, []api.Item{item("", 0, 1)}, []api.Item{item("", 0, 1)})
	checkDown(t, ones(2, 1), ones(2, 1))
	checkDown(t, ones(3, 1, 2), ones(3, 2, 1))
	checkDown(t, ones(3, 2, 1), ones(3, 2, 1))
}

// Those that are equal come as they are popped, which is not as they stand in the list.
func TestDownOfEqual(t *testing.T) {
	one, two, three := item("a", 1, 2), item("a", 2, 4), item("a", 3, 6)
	checkDown(t, []api.Item{one, two, three}, []api.Item{one, three, two})
	checkDown(t, []api.Item{three, one, two}, []api.Item{three, two, one})
	checkDown(t, []api.Item{one, two, three, item("a", 4, 8)}, []api.Item{one, item("a", 4, 8), three, two})
	// the Keys count, before that
	checkDown(t, []api.Item{item("b", 1, 2), one, item("ab", 2, 4), two}, []api.Item{item("b", 1, 2), item("ab", 2, 4), two, one})
}

func TestDownOfHeaps(t *testing.T) {
	for _, h := range heaps() {
		checkDown(t, h, modelDown(h))
	}
}

func TestDownOfAllLists(t *testing.T) {
	for _, l := range four(6) {
		checkDown(t, l, modelDown(l))
	}
}

// It is what Pop tells, one by one.
func TestDownIsPopped(t *testing.T) {
	for _, h := range heaps() {
		want := down(t, h)
		var got []api.Item
		for len(h) > 0 {
			x, others, e := pop(t, h)
			if e != api.OK {
				t.Fatalf("Pop of %s: %d", shown(h...), e)
			}
			got, h = append(got, x), others
		}
		if !slices.Equal(got, want) {
			t.Fatalf("popped: %s; Down: %s", shown(got...), shown(want...))
		}
	}
}
