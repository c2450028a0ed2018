package index_test

import (
	"fmt"
	"math"
	"slices"
	"strings"
	"testing"

	"samphire/api"
	"samphire/index"
	"samphire/sip"
)

// P12.1: New

func TestNew(t *testing.T) {
	for _, k := range []api.Seed{{}, seed, {A: 9, B: 7}, {A: math.MaxUint64, B: math.MaxUint64}} {
		x := index.New(k)
		if want := (index.Index{Seed: k, Slots: make([]index.Slot, 8)}); !same(x, want) {
			t.Errorf("New(%x): %s", k, shown(x))
		}
		checkIs(t, x)
		checkGet(t, x, "", 0, false)
	}
}

// Each New has slots of its own.
func TestNewIsNew(t *testing.T) {
	x := index.New(seed)
	x.Slots[3] = slot("a")
	checkIs(t, index.New(seed))
}

// P12.1: Right

func TestRight(t *testing.T) {
	checkIs(t, row("0a . . . . . . ."))
	checkIs(t, row("0a 1a 2a 3a . . . ."))
	checkIs(t, row(". . 2a 2b 2c 2d . ."))
	checkIs(t, row(". . 2d 2c 2b 2a . ."))
	checkIs(t, row(". . 2a 3a 2b 3b . ."))
	checkIs(t, row(". . 2a 3a 3b 2b . ."))
	// over the last place
	checkIs(t, row("7b . . . . . . 7a"))
	checkIs(t, row("7b 7c 7d . . . . 7a"))
	checkIs(t, row("6b 0a . . . . 6a 7a"))
	checkIs(t, row("7a 0a . . . . 6a 6b"))
	// the home is of as many slots as there are
	checkIs(t, row("8a 9a 15b . . . . 15a"))
	checkIs(t, row("15a 0a . . . . . 7a 8a . . . . . 14a 14b"))
}

func TestRightOfWrongPlaces(t *testing.T) {
	for _, text := range []string{
		"1a . . . . . . .",
		". 0a . . . . . .",
		". . . . . . . 0a",
		"7a . . . . . . .",
		// behind a free slot
		"0a . 0b . . . . .",
		"0a 1a . 0b . . . .",
		"7b . . . . . 6a .",
		". 7b . . . . . 7a",
		"0b . . 0c . . . 7a",
		". 7a 1a 1b . . . .",
		// ahead of the home
		"1b 1a . . . . . .",
		". . 3a 3b . . . .",
		"0a . . . . . . 0b",
		"7a . . . . . 7b 7c",
		// a home of half as many slots, or of twice as many
		"15a . . . . . . . . . . . . . . .",
		". . . . . . . 15a . . . . . . . .",
		"8a . . . . . . . . . . . . . . .",
		". . . . . . . . 0a . . . . . . .",
	} {
		checkNone(t, row(text))
	}
}

func TestRightOfWrongSlots(t *testing.T) {
	long := strings.Repeat("x", 65)
	for i := range 8 {
		x := row(". . . . . . . .")
		for _, s := range []index.Slot{{Key: "a"}, {Key: long}, {At: 1}, {At: -1}, {At: maxNum}, {Key: key(fmt.Sprint(i, "a")), At: 1}} {
			checkNone(t, with(x, i, s))
		}
		name := key(fmt.Sprint(i, "a"))
		checkIs(t, with(x, i, index.Slot{Used: true, Key: name}))
		checkIs(t, with(x, i, index.Slot{Used: true, Key: name, At: maxNum}))
		for _, at := range []int{-1, maxNum + 1, math.MinInt, math.MaxInt, 1 << 32, -maxNum} {
			checkNone(t, with(x, i, index.Slot{Used: true, Key: name, At: at}))
		}
	}
}

// sized is a key of so many bytes and of this home of 8 slots.
func sized(bytes, home int) string {
	for n := 0; ; n++ {
		key := fmt.Sprintf("%0*d", bytes, n)
		if sip.Sum(seed, key)%8 == uint64(home) {
			return key
		}
	}
}

func TestRightOfLongKeys(t *testing.T) {
	x := row(". . . . . . . .")
	for i := range 8 {
		for _, bytes := range []int{2, 63, 64} {
			checkIs(t, with(x, i, slot(sized(bytes, i))))
		}
		for _, bytes := range []int{65, 66, 128, 1 << 16} {
			checkNone(t, with(x, i, slot(sized(bytes, i))))
		}
	}
	home := int(sip.Sum(seed, "") % 8)
	for i := range 8 {
		checkRight(t, with(x, i, slot("")), i == home)
	}
}

func TestRightOfKeysTwice(t *testing.T) {
	for _, text := range []string{
		"0a 0a . . . . . .",
		"0a 0b 0a . . . . .",
		"0a 1a 0a . . . . .",
		"0a 0b 0c 0b . . . .",
		"7a . . . . . . 7a",
		"7b 7a . . . . . 7a",
		"0a 6a . . . . 6a 7a",
		// the other one in a wrong place
		"0a . 0a . . . . .",
		"0a . . . . . . 0a",
	} {
		checkNone(t, row(text))
	}
	// with unlike numbers
	x := row("0a . . . . . . .")
	checkNone(t, with(x, 1, index.Slot{Used: true, Key: x.Slots[0].Key, At: 5}))
}

func TestRightOfTooMany(t *testing.T) {
	checkIs(t, row("0a . 2a . 4a . 6a ."))
	checkNone(t, row("0a . 2a . 4a 5a 6a ."))
	checkNone(t, row("0a 1a 2a 3a 4a . . ."))
	checkNone(t, row("0a 1a 2a 3a 4a 5a 6a ."))
	checkNone(t, row("0a 1a 2a 3a 4a 5a 6a 7a"))
	checkNone(t, row("0a 0b 0c 0d 0e 0f 0g 0h"))
	checkNone(t, row("1a 1b 1c 1d 1e 1f 1g 1h")) // none of them is there, as one might look for them
	checkNone(t, row("0a 0a 0a 0a 0a 0a 0a 0a"))
	checkIs(t, row("0a 1a 2a 3a 4a 5a 6a 7a . . . . . . . ."))
	checkNone(t, row("0a 1a 2a 3a 4a 5a 6a 7a . . . . . . . 15a"))
}

func TestRightOfSizes(t *testing.T) {
	for bits := range 16 {
		power := 1 << bits
		for _, slots := range []int{power - 1, power, power + 1, power / 2 * 3} {
			x := index.Index{Seed: seed, Slots: make([]index.Slot, slots)}
			want := slots == power && power >= 8 && power <= 4096
			checkRight(t, x, want)
			if want {
				checkIs(t, x)
				checkDelete(t, x, "a", x, api.ErrNone)
			}
		}
	}
	for _, x := range []index.Index{{}, {Seed: seed}, {Slots: []index.Slot{}}} {
		checkNone(t, x)
	}
	for slots := 1; slots < 8; slots++ {
		x := index.Index{Seed: seed, Slots: make([]index.Slot, slots)}
		modelStand(x, slot("a"))
		checkNone(t, x)
	}
	for _, slots := range []int{9, 12, 24, 4095, 4097, 8192} {
		x := index.Index{Seed: seed, Slots: make([]index.Slot, slots)}
		modelStand(x, slot("a"))
		checkNone(t, x)
	}
}

func TestRightOfIndexes(t *testing.T) {
	for _, x := range indexes() {
		checkIs(t, x)
		other := index.Index{Seed: api.Seed{A: x.Seed.B + 1, B: x.Seed.A}, Slots: x.Slots}
		checkRight(t, other, modelRight(other))
	}
}

// One slot alone is wrong, be it the first one, one between, or the last one.
func TestRightOfBroken(t *testing.T) {
	for _, x := range indexes() {
		for i, s := range x.Slots {
			if !s.Used {
				checkRight(t, with(x, i, index.Slot{Key: "a"}), false)
				checkRight(t, with(x, i, index.Slot{At: 7}), false)
				continue
			}
			for _, bad := range []index.Slot{
				{Key: s.Key, At: s.At},
				{Used: true, Key: s.Key, At: -1},
				{Used: true, Key: s.Key, At: maxNum + 1},
				{Used: true, Key: strings.Repeat("x", 65), At: s.At},
			} {
				if bad == (index.Slot{}) {
					continue // the slot of the Key "" with the number 0
				}
				checkRight(t, with(x, i, bad), false)
			}
			checkWhatIsLeft(t, x, i)
		}
	}
}

// checkWhatIsLeft takes one out, and lets nothing come forward.
func checkWhatIsLeft(t *testing.T, x index.Index, i int) {
	t.Helper()
	y := with(x, i, index.Slot{})
	checkRight(t, y, modelRight(y))
	for j := range y.Slots[:min(len(y.Slots), 16)] {
		if !y.Slots[j].Used {
			z := with(y, j, x.Slots[i])
			checkRight(t, z, modelRight(z))
		}
	}
}

// All rows of eight slots, in which each of three keys stands nowhere, once, or more than once.
func TestRightOfAllRows(t *testing.T) {
	for _, names := range [][]string{{"3a", "3b", "4a"}, {"7a", "7b", "7c"}, {"6a", "7a", "0a"}, {"6a", "6b", "0a"}} {
		indexes := 0
		for _, x := range placed(names...) {
			want := modelRight(x)
			checkRight(t, x, want)
			if want {
				indexes++
				checkIs(t, x)
			}
		}
		if indexes < 8 {
			t.Errorf("%v: only %d are indexes", names, indexes)
		}
	}
}

func TestRightOfGreat(t *testing.T) {
	x := full()
	checkRight(t, x, true)
	checkMany(t, x, 2048)
	free := slices.Index(x.Slots, index.Slot{})
	checkNone(t, with(x, free, slot("full0")))
	checkNone(t, with(x, free, index.Slot{At: 1}))
	for slots := 16; slots <= 4096; slots *= 2 {
		x := index.Index{Seed: seed, Slots: make([]index.Slot, slots)}
		for n := range slots / 2 {
			modelStand(x, slot(fmt.Sprint(n)))
		}
		checkRight(t, x, true)
		checkMany(t, x, slots/2)
		modelStand(x, slot("one more"))
		checkRight(t, x, false)
		checkMany(t, x, 0)
	}
}

// P12.1: Many and Get

func TestMany(t *testing.T) {
	checkMany(t, row(". . . . . . . ."), 0)
	checkMany(t, row(". . 2a . . . . ."), 1)
	checkMany(t, row("7b . 2a . . . . 7a"), 3)
	checkMany(t, row("7b 0a 2a . . . . 7a"), 4)
	checkMany(t, row("0a . . . . . . . . . . . . . . ."), 1)
}

func TestGet(t *testing.T) {
	x := row("7b 0a . 3a . . . 7a")
	for _, name := range []string{"7b", "0a", "3a", "7a"} {
		checkGet(t, x, key(name), number(key(name)), true)
	}
	for _, none := range []string{"7c", "0b", "3b", "1a", "2a", "4a", "6a", "15a"} {
		checkGet(t, x, key(none), 0, false)
	}
	// whole keys are held against each other
	whole := key("3a")
	for _, none := range []string{"", whole[:len(whole)-1], whole + "x", whole + "\x00", strings.ToUpper(whole), "x" + whole} {
		checkGet(t, x, none, 0, false)
	}
	for _, bytes := range []int{64, 65, 1 << 16} {
		checkGet(t, x, strings.Repeat("x", bytes), 0, false)
	}
}

// 0 is a number as each other one.
func TestGetOfEdges(t *testing.T) {
	x := index.New(seed)
	for _, name := range []string{"", "\x00", strings.Repeat("x", 64)} {
		for _, at := range []int{0, 1, maxNum} {
			y := index.Index{Seed: seed, Slots: slices.Clone(x.Slots)}
			modelStand(y, index.Slot{Used: true, Key: name, At: at})
			checkGet(t, y, name, at, true)
			checkGet(t, y, name+"\x00", 0, false)
		}
	}
}

func TestGetInIndexes(t *testing.T) {
	m := mix(2)
	for _, x := range indexes() {
		for _, s := range x.Slots {
			if s.Used {
				checkGet(t, x, s.Key, s.At, true)
				want, ok := modelGet(x, s.Key+"x")
				checkGet(t, x, s.Key+"x", want, ok)
			}
		}
		for range 20 {
			none := m.text(m.below(70))
			want, ok := modelGet(x, none)
			checkGet(t, x, none, want, ok)
		}
	}
}
