package index_test

import (
	"fmt"
	"hash/crc32"
	"slices"
	"strconv"
	"strings"
	"testing"

	"samphire/api"
	"samphire/index"
	"samphire/sip"
)

const maxNum = 1<<31 - 1

var seed = api.Seed{A: 7, B: 9}

// key has a name that begins with its home of 4,096 slots, by seed: 15a has the home 7 of 8 slots,
// and 15 of 16 or more.
func key(name string) string {
	place, _ := strconv.Atoi(strings.TrimRight(name, "abcdefghijklmnopqrstuvwxyz"))
	for n := 0; ; n++ {
		key := fmt.Sprint(name, n)
		if sip.Sum(seed, key)%4096 == uint64(place) {
			return key
		}
	}
}

func keysOf(names ...string) []string {
	var keys []string
	for _, name := range names {
		keys = append(keys, key(name))
	}
	return keys
}

// number is another one for each key.
func number(key string) int { return int(crc32.ChecksumIEEE([]byte(key)) >> 1) }

func slot(key string) index.Slot { return index.Slot{Used: true, Key: key, At: number(key)} }

// row is of names; a point is a free slot.
func row(text string) index.Index {
	x := index.Index{Seed: seed}
	for _, name := range strings.Fields(text) {
		if name == "." {
			x.Slots = append(x.Slots, index.Slot{})
		} else {
			x.Slots = append(x.Slots, slot(key(name)))
		}
	}
	return x
}

// with has another slot at i.
func with(x index.Index, i int, s index.Slot) index.Index {
	slots := slices.Clone(x.Slots)
	slots[i] = s
	return index.Index{Seed: x.Seed, Slots: slots}
}

// The model: the chapter's words, by places that are gone through one behind the other.

func modelHome(x index.Index, key string) int {
	return int(sip.Sum(x.Seed, key) % uint64(len(x.Slots)))
}

// from are all places, from this one on, up to the one ahead of it.
func from(x index.Index, place int) []int {
	var all []int
	for p := place; p < len(x.Slots); p++ {
		all = append(all, p)
	}
	for p := range place {
		all = append(all, p)
	}
	return all
}

// between are the places behind a, up to b.
func between(x index.Index, a, b int) []int {
	all := from(x, a)
	return all[1 : slices.Index(all, b)+1]
}

func modelUsed(x index.Index) int {
	n := 0
	for _, s := range x.Slots {
		if s.Used {
			n++
		}
	}
	return n
}

// modelSlots: are there so many, and is each what a slot may be?
func modelSlots(x index.Index) bool {
	if !slices.Contains([]int{8, 16, 32, 64, 128, 256, 512, 1024, 2048, 4096}, len(x.Slots)) {
		return false
	}
	for _, s := range x.Slots {
		if s.Used && (len(s.Key) > 64 || s.At < 0 || s.At > maxNum) || !s.Used && (s.Key != "" || s.At != 0) {
			return false
		}
	}
	return true
}

func modelRight(x index.Index) bool {
	if !modelSlots(x) || 2*modelUsed(x) > len(x.Slots) {
		return false
	}
	seen := map[string]int{}
	for i, s := range x.Slots {
		if !s.Used {
			continue
		}
		if seen[s.Key]++; seen[s.Key] > 1 {
			return false
		}
		for p := modelHome(x, s.Key); p != i; p = (p + 1) % len(x.Slots) {
			if !x.Slots[p].Used {
				return false
			}
		}
	}
	return true
}

// modelFind looks at all slots, whatever the key's home.
func modelFind(x index.Index, key string) (int, bool) {
	for i, s := range x.Slots {
		if s.Used && s.Key == key {
			return i, true
		}
	}
	return 0, false
}

func modelGet(x index.Index, key string) (int, bool) {
	i, ok := modelFind(x, key)
	if !ok || !modelRight(x) {
		return 0, false
	}
	return x.Slots[i].At, true
}

// modelStand writes into x.
func modelStand(x index.Index, s index.Slot) {
	p := modelHome(x, s.Key)
	for x.Slots[p].Used {
		p = (p + 1) % len(x.Slots)
	}
	x.Slots[p] = s
}

func modelPut(x index.Index, key string, at int) (index.Index, api.Errno) {
	if !modelRight(x) {
		return x, api.ErrArg
	}
	return modelPutRight(x, key, at)
}

// modelPutRight does not ask whether x is an index.
func modelPutRight(x index.Index, key string, at int) (index.Index, api.Errno) {
	if len(key) > 64 {
		return x, api.ErrLong
	}
	if at < 0 || at > maxNum {
		return x, api.ErrArg
	}
	one := index.Slot{Used: true, Key: key, At: at}
	if i, ok := modelFind(x, key); ok {
		return with(x, i, one), api.OK
	}
	y := index.Index{Seed: x.Seed, Slots: slices.Clone(x.Slots)}
	if 2*(modelUsed(x)+1) > len(x.Slots) {
		if len(x.Slots) == 4096 {
			return x, api.ErrArg
		}
		y.Slots = make([]index.Slot, 2*len(x.Slots))
		for _, s := range x.Slots {
			if s.Used {
				modelStand(y, s)
			}
		}
	}
	modelStand(y, one)
	return y, api.OK
}

func modelDelete(x index.Index, key string) (index.Index, api.Errno) {
	if !modelRight(x) {
		return x, api.ErrArg
	}
	free, ok := modelFind(x, key)
	if !ok {
		return x, api.ErrNone
	}
	y := with(x, free, index.Slot{})
	for _, p := range from(y, free)[1:] {
		if !y.Slots[p].Used {
			break
		}
		if slices.Contains(between(y, free, p), modelHome(y, y.Slots[p].Key)) {
			continue
		}
		y.Slots[free] = y.Slots[p]
		y.Slots[p] = index.Slot{}
		free = p
	}
	return y, api.OK
}

// mix is a fixed stream of words (splitmix64), so that each run tests the same keys.
type mix uint64

func (m *mix) word() uint64 {
	*m += 0x9e3779b97f4a7c15
	z := uint64(*m)
	z = (z ^ z>>30) * 0xbf58476d1ce4e5b9
	z = (z ^ z>>27) * 0x94d049bb133111eb
	return z ^ z>>31
}

func (m *mix) below(n int) int { return int(m.word() % uint64(n)) }

func (m *mix) seed() api.Seed { return api.Seed{A: m.word(), B: m.word()} }

func (m *mix) number() int { return int(m.word() >> 33) }

// text has any bytes.
func (m *mix) text(length int) string {
	text := make([]byte, length)
	for i := range text {
		text[i] = byte(m.word())
	}
	return string(text)
}

// index is the model's, of so many keys.
func (m *mix) index(keys int) index.Index {
	x := index.Index{Seed: m.seed(), Slots: make([]index.Slot, 8)}
	for modelUsed(x) < keys {
		x, _ = modelPutRight(x, m.text(m.below(65)), m.number())
	}
	return x
}

// indexes are of many sizes, with none, some, and half of their slots Used.
func indexes() []index.Index {
	m := mix(1)
	all := []index.Index{index.New(m.seed()), index.New(api.Seed{})}
	for _, keys := range []int{1, 2, 3, 4, 5, 6, 7, 8, 9, 12, 15, 16, 17, 24, 31, 32, 33, 64, 65, 100} {
		all = append(all, m.index(keys))
	}
	return all
}

// placed are all rows of eight slots that each are free or have one of the names, be they indexes or not.
func placed(names ...string) []index.Index {
	all := []index.Index{{Seed: seed}}
	letters := []index.Slot{{}}
	for _, key := range keysOf(names...) {
		letters = append(letters, slot(key))
	}
	for range 8 {
		var longer []index.Index
		for _, x := range all {
			for _, s := range letters {
				longer = append(longer, index.Index{Seed: seed, Slots: append(slices.Clone(x.Slots), s)})
			}
		}
		all = longer
	}
	return all
}

// once are all indexes of eight slots of these names, each of them in one place, or in none.
func once(names ...string) []index.Index {
	all := []index.Index{row(". . . . . . . .")}
	for _, key := range keysOf(names...) {
		for _, x := range all {
			for i, s := range x.Slots {
				if !s.Used {
					all = append(all, with(x, i, slot(key)))
				}
			}
		}
	}
	return slices.DeleteFunc(all, func(x index.Index) bool { return !modelRight(x) })
}

// full has half of its 4,096 slots Used.
func full() index.Index {
	x := index.Index{Seed: seed, Slots: make([]index.Slot, 4096)}
	for n := range 2048 {
		modelStand(x, slot(fmt.Sprint("full", n)))
	}
	return x
}

func same(a, b index.Index) bool { return a.Seed == b.Seed && slices.Equal(a.Slots, b.Slots) }

// shown is short, whatever the keys and however many.
func shown(x index.Index) string {
	text := fmt.Sprintf("%x, %d slots:", x.Seed, len(x.Slots))
	for i, s := range x.Slots {
		if len(text) > 2000 {
			return text + " .."
		}
		if s != (index.Slot{}) {
			text += fmt.Sprintf(" at %d %v %.70q of %d, %d;", i, s.Used, s.Key, len(s.Key), s.At)
		}
	}
	return text
}

// The calls, each on a piece of slots that have more behind them: R1 asks that all of that stays as it was,
// also when there is written into what is answered without an error.

func piece(x index.Index) index.Index {
	x.Slots = append(slices.Clone(x.Slots), slot("behind"), index.Slot{}, index.Slot{Key: "behind", At: 1})
	return x
}

func checkStays(t *testing.T, name string, all, was index.Index) {
	t.Helper()
	if !same(all, was) {
		t.Fatalf("%s: %s became %s", name, shown(was), shown(all))
	}
}

// cut has so many slots alone, with the others still behind them.
func cut(all index.Index, slots int) index.Index {
	return index.Index{Seed: all.Seed, Slots: all.Slots[:slots]}
}

// taken is a copy of what is answered, in which then is written.
func taken(answer index.Index, e api.Errno) index.Index {
	copied := index.Index{Seed: answer.Seed, Slots: slices.Clone(answer.Slots)}
	if e == api.OK {
		for i := range answer.Slots {
			answer.Slots[i] = slot("written")
		}
		_ = append(answer.Slots, slot("written behind"))
	}
	return copied
}

func right(t *testing.T, x index.Index) bool {
	t.Helper()
	all := piece(x)
	was := piece(x)
	ok := index.Right(cut(all, len(x.Slots)))
	checkStays(t, "Right", all, was)
	return ok
}

func many(t *testing.T, x index.Index) int {
	t.Helper()
	all := piece(x)
	was := piece(x)
	n := index.Many(cut(all, len(x.Slots)))
	checkStays(t, "Many", all, was)
	return n
}

func get(t *testing.T, x index.Index, key string) (int, bool) {
	t.Helper()
	all := piece(x)
	was := piece(x)
	at, ok := index.Get(cut(all, len(x.Slots)), key)
	checkStays(t, "Get", all, was)
	return at, ok
}

func put(t *testing.T, x index.Index, key string, at int) (index.Index, api.Errno) {
	t.Helper()
	all := piece(x)
	was := piece(x)
	answer, e := index.Put(cut(all, len(x.Slots)), key, at)
	got := taken(answer, e)
	checkStays(t, "Put", all, was)
	return got, e
}

func remove(t *testing.T, x index.Index, key string) (index.Index, api.Errno) {
	t.Helper()
	all := piece(x)
	was := piece(x)
	answer, e := index.Delete(cut(all, len(x.Slots)), key)
	got := taken(answer, e)
	checkStays(t, "Delete", all, was)
	return got, e
}

// What they are held against.

func checkRight(t *testing.T, x index.Index, want bool) {
	t.Helper()
	if got := right(t, x); got != want {
		t.Fatalf("Right of %s: %v", shown(x), got)
	}
}

func checkMany(t *testing.T, x index.Index, want int) {
	t.Helper()
	if got := many(t, x); got != want {
		t.Fatalf("Many of %s: %d, not %d", shown(x), got, want)
	}
}

func checkGet(t *testing.T, x index.Index, key string, want int, wantOk bool) {
	t.Helper()
	if got, ok := get(t, x, key); got != want || ok != wantOk {
		t.Fatalf("Get of %.70q of %d in %s: %d, %v, not %d, %v", key, len(key), shown(x), got, ok, want, wantOk)
	}
}

func checkPut(t *testing.T, x index.Index, key string, at int, want index.Index, wantE api.Errno) {
	t.Helper()
	if got, e := put(t, x, key, at); e != wantE || !same(got, want) {
		t.Fatalf("Put of %.70q of %d, %d, in %s: %s, %d, not %s, %d", key, len(key), at, shown(x), shown(got), e, shown(want), wantE)
	}
}

func checkDelete(t *testing.T, x index.Index, key string, want index.Index, wantE api.Errno) {
	t.Helper()
	if got, e := remove(t, x, key); e != wantE || !same(got, want) {
		t.Fatalf("Delete of %.70q of %d in %s: %s, %d, not %s, %d", key, len(key), shown(x), shown(got), e, shown(want), wantE)
	}
}

// checkIs asks for an index of just what stands in its slots.
func checkIs(t *testing.T, x index.Index) {
	t.Helper()
	checkRight(t, x, true)
	checkMany(t, x, modelUsed(x))
	for _, s := range x.Slots {
		if s.Used {
			checkGet(t, x, s.Key, s.At, true)
		}
	}
	checkGet(t, x, "not there", 0, false)
}

// checkNone asks all calls of what is no index, with keys that are there and that are not, that may be and that may not.
func checkNone(t *testing.T, x index.Index) {
	t.Helper()
	checkRight(t, x, false)
	checkMany(t, x, 0)
	keys := []string{"", "not there", strings.Repeat("x", 64), strings.Repeat("x", 65)}
	for _, s := range x.Slots[:min(len(x.Slots), 20)] {
		keys = append(keys, s.Key)
	}
	for _, key := range keys {
		checkGet(t, x, key, 0, false)
		checkPut(t, x, key, 1, x, api.ErrArg)
		checkPut(t, x, key, -1, x, api.ErrArg)
		checkDelete(t, x, key, x, api.ErrArg)
	}
}
