package rank_test

import (
	"fmt"
	"math/big"
	"slices"
	"strings"
	"testing"

	"samphire/api"
	"samphire/rank"
)

const maxWord = 1<<64 - 1

func item(key string, u, w uint64) api.Item { return api.Item{Key: key, U: u, W: w} }

func toBig(n uint64) *big.Int { return new(big.Int).SetUint64(n) }

func product(a, b uint64) *big.Int { return new(big.Int).Mul(toBig(a), toBig(b)) }

// modelKeys goes byte by byte: of Keys of which one begins the other, that one is less.
func modelKeys(a, b string) int {
	for i := 0; i < len(a) && i < len(b); i++ {
		if a[i] != b[i] {
			return sign(int(a[i]) - int(b[i]))
		}
	}
	return sign(len(a) - len(b))
}

func sign(n int) int {
	switch {
	case n < 0:
		return -1
	case n > 0:
		return 1
	}
	return 0
}

// modelCmp is the document's sentence, in exact numbers.
func modelCmp(a, b api.Item) int {
	if order := product(a.U, b.W).Cmp(product(b.U, a.W)); order != 0 {
		return order
	}
	return modelKeys(a.Key, b.Key)
}

func modelCheck(x api.Item) api.Errno {
	switch {
	case len(x.Key) > 64:
		return api.ErrLong
	case x.W == 0:
		return api.ErrZero
	}
	return api.OK
}

// modelSort has each item's place by how many stand ahead of it, and how many of its like come before it.
func modelSort(l []api.Item) []api.Item {
	sorted := make([]api.Item, len(l))
	for i, x := range l {
		place := 0
		for j, y := range l {
			if order := modelCmp(y, x); order < 0 || order == 0 && j < i {
				place++
			}
		}
		sorted[place] = x
	}
	return sorted
}

// numbers are those at which products pass 32, 63, 64 and more bits, and neighbours of them.
func numbers() []uint64 {
	return []uint64{0, 1, 2, 3, 4, 5, 6, 1<<31 - 1, 1<<32 - 1, 1 << 32, 1<<32 + 1, 1<<53 + 1,
		1<<63 - 1, 1 << 63, 1<<63 + 1, maxWord - 2, maxWord - 1, maxWord}
}

// keys may be: of no bytes, of MaxKey bytes, beginnings of one another, and of bytes from 128 on.
func keys() []string {
	return []string{"", "\x00", "\x00\x00", "a", "a\x00", "ab", "b", "B", "\x7f", "\x80", "\xff", "\xff\xff", "Grüße", "世界",
		strings.Repeat("x", 63), strings.Repeat("x", 64), strings.Repeat("x", 63) + "y", strings.Repeat("\xff", 64), strings.Repeat("\x00", 64)}
}

// longKeys are too long.
func longKeys() []string {
	return []string{strings.Repeat("x", 65), strings.Repeat("\x00", 65), strings.Repeat("ü", 33), strings.Repeat("x", 128),
		strings.Repeat("x", 256), strings.Repeat("x", 320), strings.Repeat("x", 1<<16), strings.Repeat("x", 1<<16+64)}
}

// pairs are U and W of all numbers, a W of 0 too.
func pairs() []api.Item {
	var list []api.Item
	for _, u := range numbers() {
		for _, w := range numbers() {
			list = append(list, item("", u, w))
		}
	}
	return append(list, neighbours()...)
}

// neighbours are ranks one next to the other, whose products are apart by 1, and that no float64 holds apart.
func neighbours() []api.Item {
	list := []api.Item{item("", 1, 1)}
	for a, b := uint64(1), uint64(2); b > a; a, b = b, a+b {
		list = append(list, item("", a, b), item("", b, a))
	}
	return list
}

// wrong are items that may not be: of each sort, and of both sorts at once.
func wrong() []api.Item {
	list := []api.Item{{}, item("", 1, 0), item("a", 0, 0), item("a", maxWord, 0), item(strings.Repeat("x", 64), 1, 0)}
	for _, key := range longKeys() {
		list = append(list, item(key, 1, 1), item(key, 0, maxWord), item(key, 1, 0))
	}
	return list
}

// mix is a fixed stream of words (splitmix64), so that each run tests the same items.
type mix uint64

func (m *mix) word() uint64 {
	*m += 0x9e3779b97f4a7c15
	z := uint64(*m)
	z = (z ^ z>>30) * 0xbf58476d1ce4e5b9
	z = (z ^ z>>27) * 0x94d049bb133111eb
	return z ^ z>>31
}

func (m *mix) below(n int) int { return int(m.word() % uint64(n)) }

// number has any number of bits.
func (m *mix) number() uint64 { return m.word() >> m.below(64) }

// key is of few bytes, so that many are equal, or begin one another.
func (m *mix) key(bytes int) string {
	key := make([]byte, m.below(bytes+1))
	for i := range key {
		key[i] = "\x00a\xff"[m.below(3)]
	}
	return string(key)
}

// close is an item of few ranks and few Keys, of which many are equal.
func (m *mix) close() api.Item {
	times := m.word()>>32 + 1
	return item(m.key(1), uint64(m.below(4))*times, uint64(1+m.below(3))*times)
}

// far is any item that may be.
func (m *mix) far() api.Item {
	return item(m.key(3), m.number(), max(1, m.number()))
}

func (m *mix) items(size int, one func() api.Item) []api.Item {
	l := make([]api.Item, size)
	for i := range l {
		l[i] = one()
	}
	return l
}

// lists are of all sizes, some with many that are equal, and some in order.
func lists() [][]api.Item {
	all := [][]api.Item{nil, {}}
	m := mix(3)
	for _, size := range []int{1, 2, 3, 4, 5, 7, 11, 12, 13, 19, 20, 21, 40, 41, 63, 64, 65, 100, 200} {
		for range 4 {
			all = append(all, m.items(size, m.close), m.items(size, m.far))
		}
	}
	for _, l := range all[2:] {
		forth := modelSort(l)
		back := slices.Clone(forth)
		slices.Reverse(back)
		all = append(all, forth, back)
	}
	return all
}

// eachOrder goes through all orders of the list.
func eachOrder(l []api.Item, do func(l []api.Item)) {
	if len(l) == 0 {
		do(nil)
		return
	}
	for i := range l {
		others := slices.Delete(slices.Clone(l), i, i+1)
		eachOrder(others, func(rest []api.Item) {
			do(append([]api.Item{l[i]}, rest...))
		})
	}
}

// shown is short, whatever the Keys and however many.
func shown(l ...api.Item) string {
	var all []string
	for _, x := range l[:min(len(l), 30)] {
		all = append(all, fmt.Sprintf("%.70q of %d, %d, %d", x.Key, len(x.Key), x.U, x.W))
	}
	return fmt.Sprintf("%d: [%s]", len(l), strings.Join(all, "; "))
}

func checkItems(t *testing.T, name string, l, got, want []api.Item) {
	t.Helper()
	if !slices.Equal(got, want) {
		t.Fatalf("%s of %s: %s, not %s", name, shown(l...), shown(got...), shown(want...))
	}
}

// sorted is what Sort tells, held against the list that was handed in, which stays as it was.
func sorted(t *testing.T, l []api.Item) []api.Item {
	t.Helper()
	was := slices.Clone(l)
	got := rank.Sort(l)
	checkItems(t, "what Sort left of", was, l, was)
	return got
}

// least likewise.
func least(t *testing.T, l []api.Item, n int) []api.Item {
	t.Helper()
	was := slices.Clone(l)
	got := rank.Least(l, n)
	checkItems(t, "what Least left of", was, l, was)
	return got
}
