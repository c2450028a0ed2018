package heap_test

import (
	"slices"
	"testing"

	"samphire/api"
	"samphire/heap"
	"samphire/rank"
)

// P11.4: heaps stay heaps; items are popped in order, from the last one on; none is lost.

// counts are how many there are of each.
type counts map[api.Item]int

func counted(l []api.Item) counts {
	c := counts{}
	for _, x := range l {
		c[x]++
	}
	return c
}

func (c counts) takeOut(x api.Item) {
	if c[x]--; c[x] == 0 {
		delete(c, x)
	}
}

// checkHolds asks for a heap of just these.
func (c counts) checkHolds(t *testing.T, h []api.Item) {
	t.Helper()
	if !heap.Right(h) || !modelRight(h) {
		t.Fatalf("no heap: %s", shown(h...))
	}
	got := counted(h)
	for x, n := range c {
		if got[x] != n {
			t.Fatalf("%d, not %d, of %s in %s", got[x], n, shown(x), shown(h...))
		}
	}
	if len(got) != len(c) {
		t.Fatalf("others in %s", shown(h...))
	}
}

// change does any one of the three calls, and asks that the heap stays one and loses none.
func change(t *testing.T, m *mix, h []api.Item, c counts, x api.Item) []api.Item {
	t.Helper()
	var e api.Errno
	switch what := m.below(5); {
	case len(h) == 0 || what < 2:
		h, e = push(t, h, x)
		c[x]++
	case what < 3:
		var first api.Item
		first, h, e = pop(t, h)
		c.takeOut(first)
	default:
		i := m.below(len(h))
		c.takeOut(h[i])
		h, e = put(t, h, i, x)
		c[x]++
	}
	if e != api.OK {
		t.Fatalf("%d: %s", e, shown(h...))
	}
	c.checkHolds(t, h)
	return h
}

func TestHeapsStayHeaps(t *testing.T) {
	m := mix(6)
	for _, one := range []func() api.Item{m.close, m.far} {
		for range 30 {
			var h []api.Item
			c := counts{}
			for range 120 {
				h = change(t, &m, h, c, one())
			}
			if len(h) > 0 {
				c.checkHolds(t, down(t, h))
			}
		}
	}
}

// checkPopped asks for items from the last one in order on, none of them lost.
func checkPopped(t *testing.T, h, got []api.Item) {
	t.Helper()
	counted(h).checkHolds(t, got)
	for i := 1; i < len(got); i++ {
		if rank.Cmp(got[i-1], got[i]) < 0 {
			t.Fatalf("at %d: %s ahead of %s", i, shown(got[i-1]), shown(got[i]))
		}
	}
	for i, x := range rank.Sort(h) {
		if rank.Cmp(x, got[len(got)-1-i]) != 0 {
			t.Fatalf("at %d from the end: %s, not %s", i, shown(got[len(got)-1-i]), shown(x))
		}
	}
}

func TestPoppedInOrder(t *testing.T) {
	for _, h := range heaps() {
		checkPopped(t, h, down(t, h))
	}
}

// Long ones too.
func TestLongHeaps(t *testing.T) {
	m := mix(7)
	for _, one := range []func() api.Item{m.close, m.far} {
		var h []api.Item
		for range 1500 {
			h, _ = heap.Push(h, one())
		}
		for range 1500 {
			h, _ = heap.Put(h, m.below(len(h)), one())
		}
		checkDown(t, h, modelDownOnce(h))
		checkPopped(t, h, heap.Down(h))

		for len(h) > 1000 {
			x, others, e := heap.Pop(h)
			if e != api.OK || x != h[0] || len(others) != len(h)-1 {
				t.Fatalf("Pop of %s: %s, %d of them, %d", shown(h...), shown(x), len(others), e)
			}
			h = others
		}
		counted(h).checkHolds(t, h)
	}

	h := slices.Repeat([]api.Item{item("a", 1, 2), item("a", 2, 4)}, 50000)
	checkPopped(t, h, heap.Down(h))
}

// modelDownOnce is as modelDown, but does not ask each time whether what is left is a heap.
func modelDownOnce(h []api.Item) []api.Item {
	h = slices.Clone(h)
	var down []api.Item
	for len(h) > 1 {
		last := len(h) - 1
		x := h[last]
		down = append(down, h[0])
		h = h[:last]
		modelSink(h, 1, x)
	}
	return append(down, h...)
}
