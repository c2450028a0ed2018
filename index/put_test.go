package index_test

import (
	"fmt"
	"math"
	"strings"
	"testing"

	"samphire/api"
	"samphire/index"
)

// P12.2: Put

// named are the keys' places, of keys of one letter.
func named(x index.Index) string {
	text := ""
	for _, s := range x.Slots {
		if s.Used {
			text += s.Key
		} else {
			text += "."
		}
	}
	return text
}

// Where the letters of a row stand, another program told, which has a hash of its own.
func TestPutOfLetters(t *testing.T) {
	for _, c := range []struct {
		k       api.Seed
		letters string
		want    string
	}{
		{api.Seed{A: 7, B: 9}, "abcd", "..dbc..a"},
		{api.Seed{A: 7, B: 9}, "abcde", "..dc.......b..ea"},
		{api.Seed{A: 7, B: 9}, "abcdefgh", "..dc.gf...hb..ea"},
		{api.Seed{A: 7, B: 9}, "abcdefghi", "..........hb..ea..dc.gf........i"},
		{api.Seed{A: 9, B: 7}, "abcd", "c..abd.."},
		{api.Seed{A: 9, B: 7}, "abcde", "....d...c..ab.e."},
		{api.Seed{A: 9, B: 7}, "abcdefgh", "...hd...cf.abge."},
		{api.Seed{A: 9, B: 7}, "abcdefghi", "...h....f..abg......di..c.....e."},
		{api.Seed{}, "abcd", ".a..bcd."},
		{api.Seed{}, "abcde", "....bc...ae...d."},
		{api.Seed{}, "abcdefgh", "g...bchf.ae...d."},
		{api.Seed{}, "abcdefghi", "....b.h.ia....d.g...c..f.e......"},
	} {
		x := index.New(c.k)
		for i, letter := range strings.Split(c.letters, "") {
			x, _ = put(t, x, letter, i+1)
		}
		if got := named(x); got != c.want || x.Seed != c.k {
			t.Errorf("%x, %s: %s, %x, not %s", c.k, c.letters, got, x.Seed, c.want)
		}
		for i, letter := range strings.Split(c.letters, "") {
			checkGet(t, x, letter, i+1, true)
		}
	}
}

// The chapter's example.
func TestFivePuts(t *testing.T) {
	m := mix(3)
	for range 20 {
		x := index.New(m.seed())
		for n := 1; n <= 5; n++ {
			x, _ = put(t, x, fmt.Sprint(n), n)
			if want := []int{8, 8, 8, 8, 16}[n-1]; len(x.Slots) != want {
				t.Fatalf("%d: %s", n, shown(x))
			}
			checkMany(t, x, n)
		}
	}
}

// checkStands puts one that has a name, with its number.
func checkStands(t *testing.T, x, name, want string) {
	t.Helper()
	checkPut(t, row(x), key(name), number(key(name)), row(want), api.OK)
}

func TestPutInFreePlace(t *testing.T) {
	none := ". . . . . . . ."
	checkStands(t, none, "0a", "0a . . . . . . .")
	checkStands(t, none, "5a", ". . . . . 5a . .")
	checkStands(t, none, "7a", ". . . . . . . 7a")
	checkStands(t, none, "15a", ". . . . . . . 15a")
	checkStands(t, none, "4088a", "4088a . . . . . . .")
	// the first free one, not the last one, nor one ahead of its home
	checkStands(t, ". . 2a . . . . .", "2b", ". . 2a 2b . . . .")
	checkStands(t, ". . 2a 2b . 5a . .", "2c", ". . 2a 2b 2c 5a . .")
	checkStands(t, ". . 2a 3a . . . .", "2b", ". . 2a 3a 2b . . .")
	checkStands(t, ". . 2a . . . . .", "3a", ". . 2a 3a . . . .")
	checkStands(t, ". . 2a 2b . . . .", "3a", ". . 2a 2b 3a . . .")
	checkStands(t, ". . 2a . 4a . . .", "1a", ". 1a 2a . 4a . . .")
}

func TestPutBehindTheLastPlace(t *testing.T) {
	checkStands(t, ". . . . . . . 7a", "7b", "7b . . . . . . 7a")
	checkStands(t, "7b . . . . . . 7a", "7c", "7b 7c . . . . . 7a")
	checkStands(t, "7b 7c . . . . . 7a", "7d", "7b 7c 7d . . . . 7a")
	checkStands(t, "7b . . . . . . 7a", "0a", "7b 0a . . . . . 7a")
	checkStands(t, "0a . . . . . . 7a", "7b", "0a 7b . . . . . 7a")
	checkStands(t, "0a . . . . . 6a 7a", "6b", "0a 6b . . . . 6a 7a")
	checkStands(t, ". . . . . . 6a .", "6b", ". . . . . . 6a 6b")
}

func TestPutOfWhatIsThere(t *testing.T) {
	x := row("7b 7c . 3a . . . 7a") // half of the slots are Used
	for i, s := range x.Slots {
		if !s.Used {
			continue
		}
		for _, at := range []int{0, 1, s.At, s.At ^ 1, maxNum} {
			checkPut(t, x, s.Key, at, with(x, i, index.Slot{Used: true, Key: s.Key, At: at}), api.OK)
		}
	}
	// as it may stand behind the free place that others have left
	for _, y := range []index.Index{row("0a 0b . . . . . ."), row("7b . . . . . . 7a")} {
		for i, s := range y.Slots {
			if s.Used {
				checkPut(t, y, s.Key, 5, with(y, i, index.Slot{Used: true, Key: s.Key, At: 5}), api.OK)
			}
		}
	}
}

// Twice as many: in the order of the slots, and the new one behind all of them.
func TestPutAnew(t *testing.T) {
	checkStands(t, "0a 1a 2a 3a . . . .", "4a", "0a 1a 2a 3a 4a . . . . . . . . . . .")
	checkStands(t, "0a 1a 2a 3a . . . .", "15a", "0a 1a 2a 3a . . . . . . . . . . . 15a")
	checkStands(t, "8a 9a 2a 3a . . . .", "10a", ". . 2a 3a . . . . 8a 9a 10a . . . . .")
	// what stood behind the last place comes first
	checkStands(t, "7b 7c . . . . 6a 7a", "1a", ". 1a . . . . 6a 7b 7c 7a . . . . . .")
	checkStands(t, "7b 7c 7d . . . . 7a", "7e", ". . . . . . . 7b 7c 7d 7a 7e . . . .")
	checkStands(t, "15b 7b 15c . . . . 15a", "15d", "15c 15a 15d . . . . 7b . . . . . . . 15b")
	// what had one home has two
	checkStands(t, ". 1a 9a 1b 9b . . .", "1c", ". 1a 1b 1c . . . . . 9a 9b . . . . .")
	checkStands(t, ". 9a 1a 9b 1b . . .", "9c", ". 1a 1b . . . . . . 9a 9b 9c . . . .")
	// one is in another one's home
	checkStands(t, ". 1a 1b 2a 1c . . .", "3a", ". 1a 1b 2a 1c 3a . . . . . . . . . .")
	checkStands(t, ". 1a 1b 1c 2a . . .", "2b", ". 1a 1b 1c 2a 2b . . . . . . . . . .")
	checkStands(t, "7b 0a . . . . 6a 7a", "0b", "0a 0b . . . . 6a 7b 7a . . . . . . .")
}

func TestPutAtEachDoubling(t *testing.T) {
	m := mix(4)
	for slots := 8; slots < 4096; slots *= 2 {
		x := m.index(slots / 2)
		if len(x.Slots) != slots {
			t.Fatalf("%d slots, not %d", len(x.Slots), slots)
		}
		for range 5 {
			name := "new " + m.text(60)
			want, e := modelPut(x, name, slots)
			checkPut(t, x, name, slots, want, e)
			if len(want.Slots) != 2*slots || e != api.OK {
				t.Fatalf("%d slots, %d", len(want.Slots), e)
			}
		}
		for _, s := range x.Slots {
			if s.Used {
				want, e := modelPut(x, s.Key, 5)
				checkPut(t, x, s.Key, 5, want, e)
				break
			}
		}
	}
}

// All rows of four keys, and a fifth one.
func TestPutAnewOfAllRows(t *testing.T) {
	fifth := keysOf("7c", "15c", "8a", "3b", "14a")
	for _, four := range [][]string{{"6a", "7a", "15a", "0a"}, {"7a", "15a", "7b", "15b"}, {"2a", "10a", "2b", "3a"}} {
		for _, x := range once(four...) {
			if modelUsed(x) != 4 {
				continue
			}
			for _, key := range fifth {
				want, e := modelPut(x, key, 9)
				checkPut(t, x, key, 9, want, e)
				checkMany(t, want, 5)
			}
		}
	}
}

func TestPutInFull(t *testing.T) {
	x := full()
	for _, name := range []string{"one more", "", strings.Repeat("x", 64), "full2048"} {
		checkPut(t, x, name, 1, x, api.ErrArg)
		checkPut(t, x, name, -1, x, api.ErrArg)
	}
	checkPut(t, x, strings.Repeat("x", 65), 1, x, api.ErrLong)
	checkPut(t, x, strings.Repeat("x", 65), -1, x, api.ErrLong)
	for _, name := range []string{"full0", "full1000", "full2047"} {
		want, e := modelPut(x, name, 77)
		checkPut(t, x, name, 77, want, e)
		checkPut(t, x, name, -1, x, api.ErrArg)
	}

	less, e := remove(t, x, "full5")
	if e != api.OK || index.Many(less) != 2047 {
		t.Fatalf("Delete: %d", e)
	}
	want, _ := modelPut(less, "one more", 1)
	checkPut(t, less, "one more", 1, want, api.OK)
	checkPut(t, want, "full5", 1, want, api.ErrArg)
}

func TestPutOfNumbers(t *testing.T) {
	for _, x := range []index.Index{index.New(seed), row("7b 7c . 3a . . . 7a"), row("0a . . . . . . .")} {
		for _, name := range []string{"new", key("0a"), key("7b")} {
			for _, at := range []int{0, 1, maxNum - 1, maxNum} {
				want, e := modelPut(x, name, at)
				checkPut(t, x, name, at, want, e)
				checkGet(t, want, name, at, true)
			}
			for _, at := range []int{-1, -2, maxNum + 1, maxNum + 2, 1 << 32, -maxNum, math.MinInt, math.MinInt + 1, math.MaxInt} {
				checkPut(t, x, name, at, x, api.ErrArg)
			}
		}
	}
}

func TestPutOfKeys(t *testing.T) {
	for _, x := range []index.Index{index.New(seed), row("7b 7c . 3a . . . 7a"), row("0a . . . . . . .")} {
		for _, name := range []string{"", "\x00", "\xff", strings.Repeat("x", 63), strings.Repeat("x", 64), strings.Repeat("\x00", 64), strings.Repeat("ü", 32)} {
			want, e := modelPut(x, name, 3)
			checkPut(t, x, name, 3, want, e)
			checkGet(t, want, name, 3, true)
		}
		for _, name := range []string{strings.Repeat("x", 65), strings.Repeat("\x00", 65), strings.Repeat("ü", 33), strings.Repeat("x", 128), strings.Repeat("x", 1<<16)} {
			for _, at := range []int{0, maxNum, -1, maxNum + 1, math.MinInt, math.MaxInt} {
				checkPut(t, x, name, at, x, api.ErrLong)
			}
		}
	}
}

// Keys that begin one another, or are alike but for a byte, are unlike.
func TestPutOfLikeKeys(t *testing.T) {
	keys := []string{"", "a", "A", "aa", "a\x00", "\x00a", "\x00", "\x00\x00", "ä", "a\u0308"}
	x := index.New(seed)
	for i, name := range keys {
		x, _ = put(t, x, name, i)
	}
	checkMany(t, x, len(keys))
	for i, name := range keys {
		checkGet(t, x, name, i, true)
	}
}

func TestPutInIndexes(t *testing.T) {
	m := mix(5)
	for _, x := range indexes() {
		for range 10 {
			name, at := m.text(m.below(65)), m.number()
			want, e := modelPut(x, name, at)
			checkPut(t, x, name, at, want, e)
		}
		for _, s := range x.Slots {
			if s.Used && m.below(3) == 0 {
				want, e := modelPut(x, s.Key, s.At/2)
				checkPut(t, x, s.Key, s.At/2, want, e)
			}
		}
	}
}

func TestPutInAllRows(t *testing.T) {
	for _, names := range [][]string{{"3a", "3b", "4a"}, {"7a", "7b", "7c"}, {"6a", "7a", "0a"}} {
		keys := keysOf(append(names, "6b", "7d", "0b", "1a", "3c", "5a")...)
		for _, x := range once(names...) {
			for _, key := range keys {
				want, e := modelPut(x, key, 8)
				checkPut(t, x, key, 8, want, e)
			}
		}
	}
}
