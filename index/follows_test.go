package index_test

import (
	"fmt"
	"testing"

	"samphire/api"
	"samphire/index"
)

// P12.4: an index stays one; a key has the number that was put last, till it is deleted.

// numbers are what was put last, of the keys that are there.
type numbers map[string]int

// checkHolds asks for an index of just these.
func (n numbers) checkHolds(t *testing.T, x index.Index, keys []string) {
	t.Helper()
	if !index.Right(x) || !modelRight(x) {
		t.Fatalf("no index: %s", shown(x))
	}
	if got := index.Many(x); got != len(n) {
		t.Fatalf("%d keys, not %d: %s", got, len(n), shown(x))
	}
	for _, key := range keys {
		want, wantOk := n[key]
		if got, ok := index.Get(x, key); got != want || ok != wantOk {
			t.Fatalf("%.70q: %d, %v, not %d, %v: %s", key, got, ok, want, wantOk, shown(x))
		}
	}
}

// change puts or deletes one of the keys.
func (n numbers) change(t *testing.T, m *mix, x index.Index, key string, puts int) index.Index {
	t.Helper()
	_, there := n[key]
	if m.below(10) < puts {
		at := m.number()
		y, e := put(t, x, key, at)
		if e != api.OK {
			t.Fatalf("Put of %.70q: %d: %s", key, e, shown(x))
		}
		n[key] = at
		return y
	}
	y, e := remove(t, x, key)
	if want := map[bool]api.Errno{true: api.OK, false: api.ErrNone}[there]; e != want {
		t.Fatalf("Delete of %.70q: %d, not %d: %s", key, e, want, shown(x))
	}
	delete(n, key)
	return y
}

func (m *mix) keys(n int) []string {
	var keys []string
	for i := range n {
		keys = append(keys, fmt.Sprint(i)+m.text(m.below(60)))
	}
	return keys
}

func TestIndexesStayIndexes(t *testing.T) {
	m := mix(7)
	for _, size := range []int{4, 5, 8, 9, 30, 60} {
		for puts := 2; puts <= 8; puts += 2 {
			x, n, keys := index.New(m.seed()), numbers{}, m.keys(size)
			for range 150 {
				x = n.change(t, &m, x, keys[m.below(size)], puts)
				n.checkHolds(t, x, keys)
			}
		}
	}
}

// Many keys of one home, or of homes beside each other, about the last place.
func TestKeysOfOneHome(t *testing.T) {
	for _, homes := range [][]int{{0}, {4095}, {4094, 4095, 0, 1}, {4088, 4089}, {7, 15, 31}} {
		m := mix(8)
		var keys []string
		for i := range 20 {
			name := fmt.Sprintf("%d%c", homes[i%len(homes)], 'a'+i)
			keys = append(keys, key(name))
		}
		for puts := 4; puts <= 8; puts += 2 {
			x, n := index.New(seed), numbers{}
			for range 200 {
				x = n.change(t, &m, x, keys[m.below(len(keys))], puts)
				n.checkHolds(t, x, keys)
			}
		}
	}
}

// All indexes of eight slots that these keys' Puts and Deletes bring out, and what each call makes of each.
func TestAllThatComeOfCalls(t *testing.T) {
	for _, names := range [][]string{{"6a", "6b", "7a", "15a", "0a", "1a"}, {"7a", "7b", "7c", "7d", "7e"}, {"2a", "2b", "3a", "4a", "5a"}} {
		begin := row(". . . . . . . .")
		ahead, seen := []index.Index{begin}, map[string]int{shown(begin): 1}
		keys := keysOf(names...)
		for len(ahead) > 0 {
			x := ahead[0]
			ahead = ahead[1:]
			for _, y := range changed(t, x, keys) {
				if seen[shown(y)]++; seen[shown(y)] == 1 {
					ahead = append(ahead, y)
				}
			}
		}
		if len(seen) < 40 {
			t.Errorf("%v: only %d", names, len(seen))
		}
	}
}

// changed are those of eight slots that come of one call.
func changed(t *testing.T, x index.Index, keys []string) []index.Index {
	t.Helper()
	checkRight(t, x, true)
	var all []index.Index
	for _, key := range keys {
		want, e := modelPut(x, key, number(key))
		checkPut(t, x, key, number(key), want, e)
		checkRight(t, want, true)
		checkGet(t, want, key, number(key), true)
		if len(want.Slots) == 8 {
			all = append(all, want)
		}
		want, e = modelDelete(x, key)
		checkDelete(t, x, key, want, e)
		checkRight(t, want, true)
		checkGet(t, want, key, 0, false)
		all = append(all, want)
	}
	return all
}

// From nothing to as many as there may be, and back to nothing.
func TestUpToFullAndBack(t *testing.T) {
	x, want := index.New(seed), index.New(seed)
	var e api.Errno
	for i := range 2048 {
		name := fmt.Sprint("key ", i)
		if x, e = index.Put(x, name, i); e != api.OK {
			t.Fatalf("Put of %s: %d", name, e)
		}
		want, _ = modelPutRight(want, name, i)
		if !same(x, want) {
			t.Fatalf("%d: %s, not %s", i, shown(x), shown(want))
		}
	}
	checkMany(t, x, 2048)
	checkPut(t, x, "one more", 1, x, api.ErrArg)
	for i := range 2048 {
		name := fmt.Sprint("key ", i*5%2048)
		if at, ok := index.Get(x, name); at != i*5%2048 || !ok {
			t.Fatalf("Get of %s: %d, %v", name, at, ok)
		}
		if x, e = index.Delete(x, name); e != api.OK {
			t.Fatalf("Delete of %s: %d", name, e)
		}
		if _, ok := index.Get(x, name); ok || i%100 == 0 && !modelRight(x) {
			t.Fatalf("%s deleted: %s", name, shown(x))
		}
	}
	if none := (index.Index{Seed: seed, Slots: make([]index.Slot, 4096)}); !same(x, none) {
		t.Errorf("all deleted: %s", shown(x))
	}
}
