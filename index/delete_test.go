package index_test

import (
	"strings"
	"testing"

	"samphire/api"
	"samphire/index"
)

// P12.3: Delete

func checkGone(t *testing.T, x, name, want string) {
	t.Helper()
	checkDelete(t, row(x), key(name), row(want), api.OK)
}

func TestDelete(t *testing.T) {
	checkGone(t, "0a . . . . . . .", "0a", ". . . . . . . .")
	checkGone(t, ". . . . . . . 7a", "7a", ". . . . . . . .")
	checkGone(t, "0a . 2a . . 5a . .", "2a", "0a . . . . 5a . .")
	checkGone(t, ". . 2a 2b 2c . . .", "2c", ". . 2a 2b . . . .")
	// nothing stands behind it
	checkGone(t, ". . 2a 2b . 5a . .", "2b", ". . 2a . . 5a . .")
	checkGone(t, "0a . 2a 2b . . . .", "0a", ". . 2a 2b . . . .")
}

func TestDeleteAndComeForward(t *testing.T) {
	checkGone(t, ". . 2a 2b . . . .", "2a", ". . 2b . . . . .")
	checkGone(t, ". . 2a 2b 2c . . .", "2a", ". . 2b 2c . . . .")
	checkGone(t, ". . 2a 2b 2c . . .", "2b", ". . 2a 2c . . . .")
	checkGone(t, ". . 2a 2b 2c 2d . .", "2a", ". . 2b 2c 2d . . .")
	checkGone(t, ". . 2a 2b 3a . . .", "2a", ". . 2b 3a . . . .")
	checkGone(t, ". . 2a 2b 3a . . .", "2b", ". . 2a 3a . . . .")
	// no further than the first free slot
	checkGone(t, ". . 2a 2b . 5a 5b .", "2a", ". . 2b . . 5a 5b .")
	checkGone(t, ". . 2a . 4a 4b . .", "2a", ". . . . 4a 4b . .")
}

func TestDeleteOverTheLastPlace(t *testing.T) {
	checkGone(t, "7b . . . . . . 7a", "7a", ". . . . . . . 7b")
	checkGone(t, "7b 7c . . . . . 7a", "7a", "7c . . . . . . 7b")
	checkGone(t, "7b 7c . . . . . 7a", "7b", "7c . . . . . . 7a")
	checkGone(t, "7b 0a . . . . . 7a", "7a", "0a . . . . . . 7b")
	checkGone(t, "7b 7c 7d . . . . 7a", "7a", "7c 7d . . . . . 7b")
	checkGone(t, "6b . . . . . 6a 7a", "6a", ". . . . . . 6b 7a")
	checkGone(t, "6b 6c . . . . 6a 7a", "7a", "6c . . . . . 6a 6b")
	checkGone(t, "6b 0a . . . . 6a 7a", "6a", "0a . . . . . 6b 7a")
	checkGone(t, "7a 6c . . . . 6a 6b", "6a", "6c . . . . . 6b 7a")
	checkGone(t, "7b 0a . . . . 6a 7a", "6a", "7b 0a . . . . . 7a")
}

func TestDeleteAndStay(t *testing.T) {
	// the home is behind the free slot
	checkGone(t, ". . 2a 3a . . . .", "2a", ". . . 3a . . . .")
	checkGone(t, ". . 2a 3a 3b . . .", "2a", ". . . 3a 3b . . .")
	checkGone(t, "0a 1a 2a 3a . . . .", "1a", "0a . 2a 3a . . . .")
	checkGone(t, "0a . . . . . . 7a", "7a", "0a . . . . . . .")
	checkGone(t, "0a 0b . . . . . 7a", "7a", "0a 0b . . . . . .")
	checkGone(t, "0a . . . . . 6a 7a", "6a", "0a . . . . . . 7a")
	// and what stands behind it comes ahead of it
	checkGone(t, ". . 2a 3a 2b . . .", "2a", ". . 2b 3a . . . .")
	checkGone(t, ". . 2a 3a 4a 2b . .", "2a", ". . 2b 3a 4a . . .")
	checkGone(t, ". . 2a 2b 4a 3a . .", "2a", ". . 2b 3a 4a . . .")
	checkGone(t, ". . 2a 2b 4a 3a . .", "2b", ". . 2a 3a 4a . . .")
	checkGone(t, ". . 2a 3a 3b 2b . .", "2a", ". . 2b 3a 3b . . .")
	checkGone(t, ". . 2a 3a 2b 3b . .", "2a", ". . 2b 3a 3b . . .")
	checkGone(t, ". . 2a 3a 2b 3b . .", "3a", ". . 2a 2b 3b . . .")
	checkGone(t, "0a 7b . . . . . 7a", "7a", "0a . . . . . . 7b")
	checkGone(t, "0a 6b . . . . 6a 7a", "6a", "0a . . . . . 6b 7a")
	checkGone(t, "0a 6b . . . . 6a 7a", "7a", "0a . . . . . 6a 6b")
}

// What is handed in is told, as it was.
func TestDeleteOfNone(t *testing.T) {
	for _, x := range append(indexes(), row("7b 7c . 3a . . . 7a"), full()) {
		for _, none := range []string{"not there", strings.Repeat("y", 64), strings.Repeat("y", 65), strings.Repeat("y", 1<<16), key("7d"), key("3b"), key("2a")} {
			checkDelete(t, x, none, x, api.ErrNone)
		}
	}
	checkDelete(t, index.New(seed), "", index.New(seed), api.ErrNone)
	x := row("0a . . . . . . .")
	whole := key("0a")
	for _, none := range []string{"", whole[:len(whole)-1], whole + "\x00", strings.ToUpper(whole)} {
		checkDelete(t, x, none, x, api.ErrNone)
	}
	checkDelete(t, row(". . . . . . . ."), whole, row(". . . . . . . ."), api.ErrNone)
}

func TestDeleteOfEdges(t *testing.T) {
	for _, name := range []string{"", "\x00", strings.Repeat("x", 64)} {
		for _, at := range []int{0, maxNum} {
			x := index.New(seed)
			modelStand(x, index.Slot{Used: true, Key: name, At: at})
			checkDelete(t, x, name, index.New(seed), api.OK)
		}
	}
}

// There are as many slots as before, however few are Used.
func TestDeleteLeavesTheSlots(t *testing.T) {
	m := mix(6)
	x := m.index(100)
	slots := len(x.Slots)
	for modelUsed(x) > 0 {
		var keys []string
		for _, s := range x.Slots {
			if s.Used {
				keys = append(keys, s.Key)
			}
		}
		name := keys[m.below(len(keys))]
		want, e := modelDelete(x, name)
		checkDelete(t, x, name, want, e)
		checkDelete(t, want, name, want, api.ErrNone)
		x = want
	}
	if len(x.Slots) != slots {
		t.Errorf("%d slots, not %d", len(x.Slots), slots)
	}
}

func TestDeleteInIndexes(t *testing.T) {
	for _, x := range indexes() {
		for _, s := range x.Slots {
			if s.Used {
				want, e := modelDelete(x, s.Key)
				checkDelete(t, x, s.Key, want, e)
			}
		}
	}
}

// All rows that are indexes, whether Puts and Deletes bring them out or not.
func TestDeleteInAllRows(t *testing.T) {
	for _, names := range [][]string{{"3a", "3b", "4a", "5a"}, {"7a", "7b", "7c", "0a"}, {"6a", "6b", "7a", "0a"}, {"6a", "7a", "0a", "1a"}} {
		keys := keysOf(append(names, "6c", "0b")...)
		for _, x := range once(names...) {
			for _, key := range keys {
				want, e := modelDelete(x, key)
				checkDelete(t, x, key, want, e)
			}
		}
	}
}

func TestDeleteInFull(t *testing.T) {
	x := full()
	for _, name := range []string{"full0", "full1000", "full2047"} {
		want, e := modelDelete(x, name)
		checkDelete(t, x, name, want, e)
	}
}
