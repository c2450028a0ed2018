package frame_test

import (
	"encoding/binary"
	"strings"
	"testing"

	"samphire/api"
	"samphire/frame"
)

// P9.3: what is sealed is opened, as it was

func TestSealedIsOpened(t *testing.T) {
	for _, kind := range kinds() {
		for _, payload := range payloads() {
			checkSealedIsOpened(t, kind, payload)
		}
	}
}

func TestSealedIsOpenedOfMany(t *testing.T) {
	m := mix(10)
	for range 3000 {
		checkSealedIsOpened(t, 1+m.below(8), m.text(m.below(400)))
	}
}

// Whatever is sealed may be sealed again, and comes out by as many steps.
func TestSealedWithinSealed(t *testing.T) {
	payload := "samphire"
	s := payload
	for step := range 100 {
		s = checkSealedIsOpened(t, 1+step%8, s)
	}
	for step := range 100 {
		kind, inner, e := frame.Open(s)
		if e != api.OK || kind != 1+(99-step)%8 {
			t.Fatalf("step %d: %d, %d", step, kind, e)
		}
		s = inner
	}
	if s != payload {
		t.Errorf("%q", s)
	}
}

func checkSealedIsOpened(t *testing.T, kind int, payload string) string {
	t.Helper()
	s, e := frame.Seal(kind, payload)
	if e != api.OK {
		t.Fatalf("Seal(%d, %.50q of %d): %d", kind, payload, len(payload), e)
	}
	checkOpen(t, s, kind, payload, api.OK)
	return s
}

// P9.3: with bits turned within 32 that follow one another it is not.
// The bits of a byte stand as layer 6's sum takes them, the lowest first.

// sealed are frames that this program made.
func sealed(t *testing.T) []string {
	t.Helper()
	m := mix(11)
	var all []string
	for i, payload := range []string{"", "a", "abc", begins, "\x02\x00", strings.Repeat("\x00", 16), strings.Repeat("\xff", 16),
		m.text(60), m.text(127), m.text(128), m.text(192), m.text(260)} {
		s, e := frame.Seal(1+i%8, payload)
		if e != api.OK {
			t.Fatalf("%q: %d", payload, e)
		}
		all = append(all, s)
	}
	return all
}

// turned is the text with those bits turned that are 1 in the pattern, of which the lowest one falls on the bit `at`.
func turned(s string, at int, pattern uint32) string {
	text := []byte(s)
	for bit := range 32 {
		if place := at + bit; pattern>>bit&1 == 1 {
			text[place/8] ^= 1 << (place % 8)
		}
	}
	return string(text)
}

// places are all bits of a frame at which 32 bits can begin.
func places(s string) int { return 8*len(s) - 31 }

func checkNotOpened(t *testing.T, s string, at int, pattern uint32) {
	t.Helper()
	checkNotOpenedAs(t, s, turned(s, at, pattern))
}

func checkNotOpenedAs(t *testing.T, s, changed string) {
	t.Helper()
	kind, payload, e := frame.Open(changed)
	if kind != 0 || payload != "" || e != api.ErrForm && e != api.ErrSum {
		t.Fatalf("%q of %d, out of %q: %d, %q, %d", changed, len(s), s, kind, payload, e)
	}
}

func TestTurnedInOneBit(t *testing.T) {
	for _, s := range sealed(t) {
		for at := range 8 * len(s) {
			text := []byte(s)
			text[at/8] ^= 1 << (at % 8)
			checkNotOpenedAs(t, s, string(text))
		}
	}
}

// Of long frames, the places about their size and their sum, and some between.
func TestTurnedInLong(t *testing.T) {
	m := mix(12)
	for _, size := range []int{16383, 16384, 65535, 65536} {
		s := modelFrame(5, m.text(size))
		ats := []int{places(s) / 2}
		for bit := range 90 {
			ats = append(ats, bit, places(s)-1-bit, m.below(places(s)))
		}
		for _, at := range ats {
			checkNotOpened(t, s, at, 1)
			checkNotOpened(t, s, at, 1<<32-1)
			checkNotOpened(t, s, at, max(1, uint32(m.word())))
		}
	}
}

func TestTurnedInAllOf32Bits(t *testing.T) {
	for _, s := range sealed(t) {
		for at := range places(s) {
			checkNotOpened(t, s, at, 1<<32-1)
		}
	}
}

// Both ends of 32 bits, each two of them, and runs of every length.
func TestTurnedInFewOf32Bits(t *testing.T) {
	for _, s := range sealed(t)[:5] {
		for at := range places(s) {
			checkNotOpened(t, s, at, 1<<31|1)
			for one := range 32 {
				for other := range one {
					checkNotOpened(t, s, at, 1<<one|1<<other)
					checkNotOpened(t, s, at, (1<<(one+1)-1)&^(1<<other-1))
				}
			}
		}
	}
}

func TestTurnedInAnyOf32Bits(t *testing.T) {
	m := mix(13)
	for _, s := range sealed(t) {
		for at := range places(s) {
			for range 60 {
				// 1 where it would be none.
				checkNotOpened(t, s, at, max(1, uint32(m.word())))
			}
		}
	}
}

// All patterns of few bits, at every place of short frames.
func TestTurnedInEveryPatternOfFewBits(t *testing.T) {
	for _, s := range sealed(t)[:3] {
		for at := range 8*len(s) - 11 {
			for pattern := uint32(1); pattern < 1<<12; pattern += 2 {
				checkNotOpened(t, s, at, pattern)
			}
		}
	}
}

// lacks is what the sum lacks of the one that it ought to be: 0 if the sum is right.
func lacks(s string) uint32 {
	ahead, sum := s[:len(s)-4], s[len(s)-4:]
	return othersSum(ahead) ^ binary.LittleEndian.Uint32([]byte(sum))
}

// Of what a turn of each of 32 bits makes the sum lack, no choice cancels itself out: as turns add
// (TestTurnsAdd), this stands for all 2^32 - 1 patterns at the place, its size and its sum among them.
// It would not, if the sum stood with its highest byte first.
func TestTurnedInEveryOf32Bits(t *testing.T) {
	for _, s := range sealed(t) {
		if lacks(s) != 0 {
			t.Fatalf("%q lacks %x", s, lacks(s))
		}
		for at := range places(s) {
			var found []uint32
			for bit := range 32 {
				if rest := reduced(found, lacks(turned(s, at, 1<<bit))); rest != 0 {
					found = append(found, rest)
				}
			}
			if len(found) != 32 {
				t.Fatalf("%d bytes, at the bit %d: only %d of 32 are free", len(s), at, len(found))
			}
		}
	}
}

// reduced is what is left of n, when those found have taken away what they can; 0 if they make it up.
func reduced(found []uint32, n uint32) uint32 {
	for _, f := range found {
		n = min(n, n^f)
	}
	return n
}

func TestTurnsAdd(t *testing.T) {
	m := mix(14)
	for _, s := range sealed(t) {
		for range 300 {
			at, a, b := m.below(places(s)), uint32(m.word()), uint32(m.word())
			one, other, both := lacks(turned(s, at, a)), lacks(turned(s, at, b)), lacks(turned(s, at, a^b))
			if both != one^other {
				t.Fatalf("%d bytes, at the bit %d, %x and %x: %x and %x, %x", len(s), at, a, b, one, other, both)
			}
		}
	}
}

// P9.3 and P5: what is opened would be sealed so.
func TestOpenedWouldBeSealedSo(t *testing.T) {
	m := mix(15)
	there := 0
	for range 20000 {
		s := modelFrame(m.below(10), m.text(m.below(6)))
		if m.below(3) == 0 {
			text := []byte(s)
			text[m.below(len(text))] ^= byte(m.word())
			s = string(text)
		}
		if checkModel(t, s) == api.OK {
			there++
		}
	}
	if there < 8000 {
		t.Errorf("%d are frames", there)
	}
}
