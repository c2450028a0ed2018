package crc_test

import (
	"slices"
	"strings"
	"testing"

	"samphire/crc"
)

// P6.2: sums go on

func checkParts(t *testing.T, sum uint32, s string, parts ...string) {
	t.Helper()
	got := sum
	for _, part := range parts {
		got = crc.More(got, part)
	}
	if want := crc.More(sum, s); got != want {
		t.Fatalf("behind %x, %.300q one behind the other: %x, not %x", sum, parts, got, want)
	}
	if want := modelMore(sum, s); got != want {
		t.Fatalf("behind %x, %.300q one behind the other: %x, and the document's is %x", sum, parts, got, want)
	}
}

func TestCutAtEveryPlace(t *testing.T) {
	m := mix(7)
	for _, length := range []int{0, 1, 2, 3, 4, 5, 7, 8, 9, 63, 64, 191, 192, 193, 194, 255, 256, 257, 385, 400, 520} {
		s, start := m.text(length), uint32(m.word())
		for cut := range length + 1 {
			if got := crc.More(crc.Sum(s[:cut]), s[cut:]); got != crc.Sum(s) {
				t.Fatalf("%d bytes, cut at %d: %x, not %x", length, cut, got, crc.Sum(s))
			}
			checkParts(t, 0, s, s[:cut], s[cut:])
			checkParts(t, start, s, s[:cut], s[cut:])
		}
	}
}

func TestCutExample(t *testing.T) {
	const s = "123456789"
	for cut := range len(s) + 1 {
		checkMore(t, crc.Sum(s[:cut]), s[cut:], 0xe3069283)
	}
}

func TestCutAtEveryTwoPlaces(t *testing.T) {
	m := mix(8)
	for length := range 20 {
		s, start := m.text(length), uint32(m.word())
		for cut := range length + 1 {
			for next := cut; next <= length; next++ {
				checkParts(t, start, s, s[:cut], s[cut:next], s[next:])
			}
		}
	}
}

// The lengths are such that parts of no bytes are many.
func TestCutIntoManyParts(t *testing.T) {
	m := mix(9)
	for _, most := range []int{2, 3, 9, 40, 500} {
		for range 100 {
			var parts []string
			for range m.below(20) {
				parts = append(parts, m.text(m.below(most)))
			}
			checkParts(t, uint32(m.word()), strings.Join(parts, ""), parts...)
		}
	}
}

func TestByteByByte(t *testing.T) {
	s := counting(2000)
	checkParts(t, 0, s, strings.Split(s, "")...)
	var bytes []string
	for i := range len(s) {
		bytes = append(bytes, s[i:i+1])
	}
	checkParts(t, 0xdeadbeef, s, bytes...)
}

// P6.2: texts of one length that are unlike within 32 bits one behind the other.
// The bits of a byte stand as the sum takes them, the lowest first.

// changed is the text with those bits turned that are 1 in the pattern, of which the lowest one falls on the bit `at`.
func changed(s string, at int, pattern uint32) string {
	text := []byte(s)
	for bit := range 32 {
		if place := at + bit; pattern>>bit&1 == 1 {
			text[place/8] ^= 1 << (place % 8)
		}
	}
	return string(text)
}

// places are all bits of a text at which 32 bits can begin.
func places(s string) int { return 8*len(s) - 31 }

// texts are long enough for 32 bits; their sums are taken in either way, of few bytes and of many.
func texts() []string {
	m := mix(10)
	var all []string
	for _, length := range []int{4, 5, 6, 9, 16, 40, 192, 193, 260} {
		all = append(all, m.text(length))
	}
	return append(all, strings.Repeat("\x00", 12), strings.Repeat("\xff", 12), "samphire", counting(200))
}

func checkUnlike(t *testing.T, s string, at int, pattern uint32) {
	t.Helper()
	other := changed(s, at, pattern)
	if a, b := crc.Sum(s), crc.Sum(other); a == b {
		t.Fatalf("%d bytes, %x at the bit %d: %x both", len(s), pattern, at, a)
	}
	const start = 0x9abcdef0
	if a, b := crc.More(start, s), crc.More(start, other); a == b {
		t.Fatalf("%d bytes behind %x, %x at the bit %d: %x both", len(s), uint32(start), pattern, at, a)
	}
}

func TestUnlikeInOneBit(t *testing.T) {
	for _, s := range append(texts(), "a", "ab", "abc") {
		told := map[uint32]int{crc.Sum(s): -1}
		for at := range 8 * len(s) {
			text := []byte(s)
			text[at/8] ^= 1 << (at % 8)
			sum := crc.Sum(string(text))
			if other, ok := told[sum]; ok {
				t.Fatalf("%.50q of %d: the bits %d and %d: %x", s, len(s), other, at, sum)
			}
			told[sum] = at
		}
	}
}

func TestUnlikeInAllOf32Bits(t *testing.T) {
	for _, s := range texts() {
		for at := range places(s) {
			checkUnlike(t, s, at, 1<<32-1)
		}
	}
}

// Both ends of 32 bits, and each two of them, and runs of every length.
func TestUnlikeInFewOf32Bits(t *testing.T) {
	s := counting(12)
	for at := range places(s) {
		checkUnlike(t, s, at, 1<<31|1)
		for one := range 32 {
			for other := range one {
				checkUnlike(t, s, at, 1<<one|1<<other)
				checkUnlike(t, s, at, (1<<one-1)&^(1<<other-1))
			}
		}
	}
}

func TestUnlikeInAnyOf32Bits(t *testing.T) {
	m := mix(11)
	for _, s := range texts() {
		for at := range places(s) {
			for range 40 {
				// 1 where it would be none.
				checkUnlike(t, s, at, max(1, uint32(m.word())))
			}
		}
	}
}

// Of the numbers that a change of each of 32 bits brings about, no choice cancels itself out:
// by TestChangesAdd this stands for all 2^32 - 1 patterns at the place.
func TestUnlikeInEveryOf32Bits(t *testing.T) {
	for _, s := range texts() {
		sum := crc.Sum(s)
		for at := range places(s) {
			var found []uint32
			for bit := range 32 {
				if rest := reduced(found, sum^crc.Sum(changed(s, at, 1<<bit))); rest != 0 {
					found = append(found, rest)
				}
			}
			if len(found) != 32 {
				t.Fatalf("%d bytes, at the bit %d: only %d of 32 are free", len(s), at, len(found))
			}
		}
	}
}

// reduced is what is left of n, when those found have taken away what they can; 0 if they make it up.
func reduced(found []uint32, n uint32) uint32 {
	for _, f := range found {
		n = min(n, n^f)
	}
	return n
}

// What two changes bring about together is what each of them does alone, one changed by the other.
func TestChangesAdd(t *testing.T) {
	m := mix(12)
	for _, s := range texts() {
		for range 300 {
			a, b := []byte(m.text(len(s))), []byte(m.text(len(s)))
			both := slices.Clone(a)
			for i := range both {
				both[i] ^= b[i] ^ s[i]
			}
			got := crc.Sum(string(a)) ^ crc.Sum(string(b)) ^ crc.Sum(s)
			if want := crc.Sum(string(both)); got != want {
				t.Fatalf("%x, %x, %x: %x, not %x", s, a, b, got, want)
			}
		}
	}
}

// All texts of one byte, of two, and those of four that are unlike in two bytes.
func TestUnlikeTextsOfFewBytes(t *testing.T) {
	one, two, four := map[uint32]int{}, map[uint32]int{}, map[uint32]int{}
	for n := range 1 << 16 {
		low, high := byte(n), byte(n>>8)
		one[crc.Sum(string([]byte{low}))]++
		two[crc.Sum(string([]byte{low, high}))]++
		four[crc.Sum(string([]byte{low, 'a', 'b', high}))]++
	}
	if len(one) != 1<<8 || len(two) != 1<<16 || len(four) != 1<<16 {
		t.Errorf("%d, %d and %d sums", len(one), len(two), len(four))
	}
}
