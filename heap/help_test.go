package heap_test

import (
	"fmt"
	"math/big"
	"slices"
	"strings"
	"testing"

	"samphire/api"
	"samphire/heap"
)

const maxWord = 1<<64 - 1

func item(key string, u, w uint64) api.Item { return api.Item{Key: key, U: u, W: w} }

// ones are of the numbers, over 1, each with its own Key.
func ones(numbers ...uint64) []api.Item {
	var l []api.Item
	for _, n := range numbers {
		l = append(l, item(fmt.Sprint(n), n, 1))
	}
	return l
}

// The model: the chapter's words, in exact numbers, with places counted from 1 on,
// so that the one above n is n/2, and those below it are 2n and 2n+1.

func product(a, b uint64) *big.Int {
	return new(big.Int).Mul(new(big.Int).SetUint64(a), new(big.Int).SetUint64(b))
}

func modelBehind(a, b api.Item) bool {
	order := product(a.U, b.W).Cmp(product(b.U, a.W))
	return order > 0 || order == 0 && slices.Compare([]byte(a.Key), []byte(b.Key)) > 0
}

func modelCheck(x api.Item) api.Errno {
	switch {
	case len(x.Key) > 64:
		return api.ErrLong
	case x.W == 0:
		return api.ErrZero
	}
	return api.OK
}

func modelRight(h []api.Item) bool {
	for n := 1; n <= len(h); n++ {
		if modelCheck(h[n-1]) != api.OK {
			return false
		}
	}
	for n := 2; n <= len(h); n++ {
		if modelBehind(h[n-1], h[n/2-1]) {
			return false
		}
	}
	return true
}

func modelFind(h []api.Item, key string) (int, bool) {
	place, found := 0, false
	if !modelRight(h) {
		return place, found
	}
	for i := len(h) - 1; i >= 0; i-- {
		if h[i].Key == key {
			place, found = i, true
		}
	}
	return place, found
}

// modelLift has x at n: all that it stands behind, on the way up, go one down.
func modelLift(h []api.Item, n int, x api.Item) {
	for n > 1 && modelBehind(x, h[n/2-1]) {
		h[n-1] = h[n/2-1]
		n /= 2
	}
	h[n-1] = x
}

// modelSink has x at n.
func modelSink(h []api.Item, n int, x api.Item) {
	h[n-1] = x
	var below []int
	for _, one := range []int{2 * n, 2*n + 1} {
		if one <= len(h) {
			below = append(below, one)
		}
	}
	// The sort is stable: of two of which neither stands behind the other, the first one stays first.
	slices.SortStableFunc(below, func(a, b int) int {
		switch {
		case modelBehind(h[a-1], h[b-1]):
			return -1
		case modelBehind(h[b-1], h[a-1]):
			return 1
		}
		return 0
	})
	if len(below) > 0 && modelBehind(h[below[0]-1], x) {
		h[n-1] = h[below[0]-1]
		modelSink(h, below[0], x)
	}
}

func modelPush(h []api.Item, x api.Item) ([]api.Item, api.Errno) {
	switch {
	case !modelRight(h):
		return h, api.ErrArg
	case modelCheck(x) != api.OK:
		return h, modelCheck(x)
	}
	pushed := append(slices.Clone(h), api.Item{})
	modelLift(pushed, len(pushed), x)
	return pushed, api.OK
}

func modelPop(h []api.Item) (api.Item, []api.Item, api.Errno) {
	switch {
	case !modelRight(h):
		return api.Item{}, h, api.ErrArg
	case len(h) == 0:
		return api.Item{}, h, api.ErrNone
	case len(h) == 1:
		return h[0], nil, api.OK
	}
	others := slices.Clone(h[:len(h)-1])
	modelSink(others, 1, h[len(h)-1])
	return h[0], others, api.OK
}

func modelPut(h []api.Item, i int, x api.Item) ([]api.Item, api.Errno) {
	switch {
	case !modelRight(h):
		return h, api.ErrArg
	case i < 0 || i > len(h)-1:
		return h, api.ErrNone
	case modelCheck(x) != api.OK:
		return h, modelCheck(x)
	}
	put := slices.Clone(h)
	if i > 0 && modelBehind(x, h[(i+1)/2-1]) {
		modelLift(put, i+1, x)
	} else {
		modelSink(put, i+1, x)
	}
	return put, api.OK
}

func modelDown(h []api.Item) []api.Item {
	var down []api.Item
	for len(h) > 0 && modelRight(h) {
		x, others, _ := modelPop(h)
		down, h = append(down, x), others
	}
	return down
}

// mix is a fixed stream of words (splitmix64), so that each run tests the same items.
type mix uint64

func (m *mix) word() uint64 {
	*m += 0x9e3779b97f4a7c15
	z := uint64(*m)
	z = (z ^ z>>30) * 0xbf58476d1ce4e5b9
	z = (z ^ z>>27) * 0x94d049bb133111eb
	return z ^ z>>31
}

func (m *mix) below(n int) int { return int(m.word() % uint64(n)) }

// number has any number of bits.
func (m *mix) number() uint64 { return m.word() >> m.below(64) }

// key is of few bytes, so that many are equal, or begin one another.
func (m *mix) key(bytes int) string {
	key := make([]byte, m.below(bytes+1))
	for i := range key {
		key[i] = "\x00a\xff"[m.below(3)]
	}
	return string(key)
}

// close is an item of few ranks and few Keys, of which many are equal, with unlike numbers.
func (m *mix) close() api.Item {
	times := m.word()>>32 + 1
	return item(m.key(1), uint64(m.below(4))*times, uint64(1+m.below(3))*times)
}

// far is any item that may be.
func (m *mix) far() api.Item {
	return item(m.key(3), m.number(), max(1, m.number()))
}

// heap is the model's.
func (m *mix) heap(size int, one func() api.Item) []api.Item {
	var h []api.Item
	for range size {
		h, _ = modelPush(h, one())
	}
	return h
}

// heaps are of all sizes up to some, and of greater ones, as pushed, and as they stand from the last one down.
func heaps() [][]api.Item {
	all := [][]api.Item{nil, {}}
	m := mix(1)
	sizes := []int{31, 32, 33, 62, 63, 64, 65, 100}
	for size := 1; size <= 18; size++ {
		sizes = append(sizes, size)
	}
	for _, size := range sizes {
		close, far := m.heap(size, m.close), m.heap(size, m.far)
		all = append(all, close, far, modelDown(close), modelDown(far))
	}
	return all
}

// four are all lists of up to so many items of these, of which the first two are equal but for their numbers.
func four(size int) [][]api.Item {
	letters := letters()
	all := [][]api.Item{nil}
	for begin := 0; size > 0; size-- {
		end := len(all)
		for _, l := range all[begin:end] {
			for _, x := range letters {
				all = append(all, append(slices.Clone(l), x))
			}
		}
		begin = end
	}
	return all
}

func letters() []api.Item {
	return []api.Item{item("a", 1, 2), item("a", 2, 4), item("b", 3, 6), item("", 2, 3)}
}

// wrong are items that may not be: of each sort, and of both sorts at once.
func wrong() []api.Item {
	list := []api.Item{{}, item("a", 0, 0), item("a", 1, 0), item("a", maxWord, 0), item(strings.Repeat("x", 64), 1, 0)}
	for _, key := range []string{strings.Repeat("x", 65), strings.Repeat("\x00", 65), strings.Repeat("ü", 33), strings.Repeat("x", 128), strings.Repeat("x", 1<<16)} {
		list = append(list, item(key, 1, 1), item(key, 0, maxWord), item(key, maxWord, 1), item(key, 1, 0))
	}
	return list
}

// shown is short, whatever the Keys and however many.
func shown(l ...api.Item) string {
	var all []string
	for _, x := range l[:min(len(l), 30)] {
		all = append(all, fmt.Sprintf("%.70q of %d, %d, %d", x.Key, len(x.Key), x.U, x.W))
	}
	return fmt.Sprintf("%d: [%s]", len(l), strings.Join(all, "; "))
}

// The calls, each on a piece of a list that has more behind it: R1 asks that all of that stays as it was,
// also when there is written into what is answered without an error.

func piece(h []api.Item) []api.Item {
	return append(slices.Clone(h), item("behind", maxWord, 1), item("", 0, 1), item("behind", 0, 0))
}

func checkStays(t *testing.T, name string, all, was []api.Item) {
	t.Helper()
	if !slices.Equal(all, was) {
		t.Fatalf("%s: %s became %s", name, shown(was...), shown(all...))
	}
}

// taken is a copy of what is answered, in which then is written.
func taken(answer []api.Item, e api.Errno) []api.Item {
	copied := slices.Clone(answer)
	if e == api.OK {
		for i := range answer {
			answer[i] = item("written", 7, 7)
		}
		_ = append(answer, item("written", 8, 8))
	}
	return copied
}

func right(t *testing.T, h []api.Item) bool {
	t.Helper()
	all := piece(h)
	was := slices.Clone(all)
	ok := heap.Right(all[:len(h)])
	checkStays(t, "Right", all, was)
	return ok
}

func find(t *testing.T, h []api.Item, key string) (int, bool) {
	t.Helper()
	all := piece(h)
	was := slices.Clone(all)
	i, ok := heap.Find(all[:len(h)], key)
	checkStays(t, "Find", all, was)
	return i, ok
}

func push(t *testing.T, h []api.Item, x api.Item) ([]api.Item, api.Errno) {
	t.Helper()
	all := piece(h)
	was := slices.Clone(all)
	answer, e := heap.Push(all[:len(h)], x)
	got := taken(answer, e)
	checkStays(t, "Push", all, was)
	return got, e
}

func pop(t *testing.T, h []api.Item) (api.Item, []api.Item, api.Errno) {
	t.Helper()
	all := piece(h)
	was := slices.Clone(all)
	x, answer, e := heap.Pop(all[:len(h)])
	got := taken(answer, e)
	checkStays(t, "Pop", all, was)
	return x, got, e
}

func put(t *testing.T, h []api.Item, i int, x api.Item) ([]api.Item, api.Errno) {
	t.Helper()
	all := piece(h)
	was := slices.Clone(all)
	answer, e := heap.Put(all[:len(h)], i, x)
	got := taken(answer, e)
	checkStays(t, "Put", all, was)
	return got, e
}

func down(t *testing.T, h []api.Item) []api.Item {
	t.Helper()
	all := piece(h)
	was := slices.Clone(all)
	got := taken(heap.Down(all[:len(h)]), api.OK)
	checkStays(t, "Down", all, was)
	return got
}

// What they are held against.

func checkRight(t *testing.T, h []api.Item, want bool) {
	t.Helper()
	if got := right(t, h); got != want {
		t.Fatalf("Right of %s: %v", shown(h...), got)
	}
}

func checkFind(t *testing.T, h []api.Item, key string, want int, wantOk bool) {
	t.Helper()
	if got, ok := find(t, h, key); got != want || ok != wantOk {
		t.Fatalf("Find of %.70q of %d in %s: %d, %v, not %d, %v", key, len(key), shown(h...), got, ok, want, wantOk)
	}
}

func checkPush(t *testing.T, h []api.Item, x api.Item, want []api.Item, wantE api.Errno) {
	t.Helper()
	if got, e := push(t, h, x); e != wantE || !slices.Equal(got, want) {
		t.Fatalf("Push of %s onto %s: %s, %d, not %s, %d", shown(x), shown(h...), shown(got...), e, shown(want...), wantE)
	}
}

func checkPop(t *testing.T, h []api.Item, wantX api.Item, want []api.Item, wantE api.Errno) {
	t.Helper()
	if x, got, e := pop(t, h); x != wantX || e != wantE || !slices.Equal(got, want) {
		t.Fatalf("Pop of %s: %s, %s, %d, not %s, %s, %d", shown(h...), shown(x), shown(got...), e, shown(wantX), shown(want...), wantE)
	}
}

func checkPut(t *testing.T, h []api.Item, i int, x api.Item, want []api.Item, wantE api.Errno) {
	t.Helper()
	if got, e := put(t, h, i, x); e != wantE || !slices.Equal(got, want) {
		t.Fatalf("Put of %s at %d in %s: %s, %d, not %s, %d", shown(x), i, shown(h...), shown(got...), e, shown(want...), wantE)
	}
}

func checkDown(t *testing.T, h, want []api.Item) {
	t.Helper()
	if got := down(t, h); !slices.Equal(got, want) {
		t.Fatalf("Down of %s: %s, not %s", shown(h...), shown(got...), shown(want...))
	}
}

// checkNone asks all calls of what is no heap, with places that are there and that are not, and items of all sorts.
func checkNone(t *testing.T, h []api.Item) {
	t.Helper()
	checkRight(t, h, false)
	for _, x := range append(slices.Clone(h), item("none", 1, 1)) {
		checkFind(t, h, x.Key, 0, false)
	}
	checkPop(t, h, api.Item{}, h, api.ErrArg)
	checkDown(t, h, nil)
	for _, x := range []api.Item{item("x", 1, 1), {}, item(strings.Repeat("x", 65), 1, 1), item(strings.Repeat("x", 65), 1, 0)} {
		checkPush(t, h, x, h, api.ErrArg)
		for _, i := range []int{-1, 0, len(h) - 1, len(h), 1 << 40} {
			checkPut(t, h, i, x, h, api.ErrArg)
		}
	}
}
