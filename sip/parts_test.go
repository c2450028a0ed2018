package sip_test

import (
	"math"
	"strings"
	"testing"
	"unsafe"

	"samphire/api"
	"samphire/sip"
)

// P5.1: New, Write, Done

func TestNew(t *testing.T) {
	if got, want := sip.New(api.Seed{}), (sip.Hash{V: [4]uint64{
		0x736f6d6570736575, 0x646f72616e646f6d, 0x6c7967656e657261, 0x7465646279746573,
	}}); got != want {
		t.Errorf("New of the seed 0, 0: %v, not %v", got, want)
	}
	m := mix(2)
	for range 100 {
		k := m.seed()
		if got, want := sip.New(k), modelHash(k, ""); got != want {
			t.Fatalf("New(%x): %v, not %v", k, got, want)
		}
		checkParts(t, k, "")
	}
}

func TestDoneOfKnown(t *testing.T) {
	for length, want := range known {
		if got := sip.Done(sip.Write(sip.New(example), counting(length))); got != want {
			t.Errorf("%d bytes: %x, not %x", length, got, want)
		}
	}
	for _, c := range append(knownOthers(), knownLong()...) {
		if got := sip.Done(sip.Write(sip.New(c.k), c.s)); got != c.want {
			t.Errorf("%x, %.50q of %d: %x, not %x", c.k, c.s, len(c.s), got, c.want)
		}
	}
}

func TestWriteOfWhole(t *testing.T) {
	m := mix(3)
	for length := range 600 {
		k, s := m.seed(), m.text(length)
		checkParts(t, k, s, s)
	}
}

func TestWriteTells(t *testing.T) {
	h := sip.New(example)
	for _, c := range []struct {
		s, tail string
		n       int
	}{
		{"", "", 0}, {"abc", "abc", 3}, {"", "abc", 3}, {"defg", "abcdefg", 7}, {"h", "", 8},
		{"12345678", "", 16}, {"123456789", "9", 25}, {"abcdefg", "", 32}, {"x", "x", 33}, {"12345678", "8", 41},
	} {
		h = sip.Write(h, c.s)
		if h.Tail != c.tail || h.N != c.n {
			t.Errorf("%q written: %q, %d, not %q, %d", c.s, h.Tail, h.N, c.tail, c.n)
		}
	}
}

// Hashes that no New began are as good, if their Tails fit.
func TestWriteBehindAny(t *testing.T) {
	m := mix(4)
	for _, n := range []int{0, 1, 5, 7, 8, 9, 255, 256, 257, 1<<31 - 1, 1 << 31, 1<<40 + 3, math.MaxInt - 300, math.MaxInt} {
		for length := range 41 {
			h := sip.Hash{V: [4]uint64{m.word(), m.word(), m.word(), m.word()}, Tail: m.text(n % 8), N: n}
			if got, want := sip.Done(h), (&model{h.V[0], h.V[1], h.V[2], h.V[3]}).end(h.Tail, n); got != want {
				t.Fatalf("Done(%v): %x, not %x", h, got, want)
			}
			if n > math.MaxInt-length {
				continue
			}
			s := m.text(length)
			want := (&model{h.V[0], h.V[1], h.V[2], h.V[3]}).end(h.Tail+s, n+length)
			more := sip.Write(h, s)
			if got := sip.Done(more); got != want || more.N != n+length {
				t.Fatalf("Write(%v, %q): %v, done: %x, not %x", h, s, more, got, want)
			}
		}
	}
}

// Of how many bytes there were the lowest eight bits count, and no others.
func TestDoneOfLengths(t *testing.T) {
	h := sip.Write(sip.New(example), counting(11))
	told := map[uint64]int{}
	for n := 3; n < 259; n += 8 {
		h.N = n
		told[sip.Done(h)] = n
		want := sip.Done(h)
		for _, more := range []int{256, 512, 1 << 16, 1 << 40} {
			h.N = n + more
			if got := sip.Done(h); got != want {
				t.Errorf("N %d: %x, and %d: %x", n, want, h.N, got)
			}
		}
	}
	if len(told) != 32 {
		t.Errorf("%d hashes of 32 lengths", len(told))
	}
}

// R1
func TestWriteTwiceBehindOne(t *testing.T) {
	for length := range 20 {
		s := counting(length)
		h := sip.Write(sip.New(example), s)
		before := h
		one, other := sip.Write(h, "one of both"), sip.Write(h, "the other one")
		first := sip.Done(h)
		if h != before || sip.Done(h) != first || first != modelSum(example, s) {
			t.Errorf("behind %d bytes: %v is %v now", length, before, h)
		}
		if one != modelHash(example, s+"one of both") || other != modelHash(example, s+"the other one") {
			t.Errorf("behind %d bytes: %v, %v", length, one, other)
		}
	}
}

// A long text that was written once must not stay for the sake of its last bytes.
func TestWriteKeepsNoText(t *testing.T) {
	for _, length := range []int{3, 8*1000 + 3} {
		s := strings.Repeat("x", length)
		tail := sip.Write(sip.New(example), s).Tail
		from := uintptr(unsafe.Pointer(unsafe.StringData(s)))
		at := uintptr(unsafe.Pointer(unsafe.StringData(tail)))
		if at >= from && at < from+uintptr(length) {
			t.Errorf("the Tail is a piece of the text of %d bytes", length)
		}
	}
}

// Others, whose Tail has not as many bytes as N leaves of eights

func checkWrong(t *testing.T, h sip.Hash) {
	t.Helper()
	for _, s := range []string{"", "x", "abcdefg", "abcdefgh", "abcdefghi", counting(300)} {
		if got := sip.Write(h, s); got != h {
			t.Errorf("Write(%v, %q): %v", h, s, got)
		}
	}
	if got := sip.Done(h); got != 0 {
		t.Errorf("Done(%v): %x", h, got)
	}
}

func TestWrongTail(t *testing.T) {
	v := sip.New(example).V
	for n := range 50 {
		for length := range 50 {
			h := sip.Hash{V: v, Tail: counting(length), N: n}
			if length != n%8 {
				checkWrong(t, h)
			} else if sip.Done(h) == 0 || sip.Write(h, "x").N != n+1 {
				t.Errorf("%v is taken for a wrong one", h)
			}
		}
	}
	for length := range 20 {
		h := sip.Hash{V: v, Tail: counting(length), N: math.MaxInt}
		if length != 7 {
			checkWrong(t, h)
		}
		h.N = 1<<31 - 1 + 256
		if length != 7 {
			checkWrong(t, h)
		}
	}
	checkWrong(t, sip.Hash{N: 3})
	checkWrong(t, sip.Hash{Tail: "abc"})
	checkWrong(t, sip.Hash{Tail: "abcdefgh", N: 8})
	checkWrong(t, sip.Hash{Tail: "abcdefghijk", N: 11})
	checkWrong(t, sip.Hash{V: v, Tail: counting(1 << 16)})
}

// Below 0, whatever one takes to be left of eights there.
func TestWrongBelowZero(t *testing.T) {
	v := sip.New(example).V
	for _, n := range []int{-1, -2, -3, -4, -5, -6, -7, -8, -9, -16, -256, -1 << 31, math.MinInt + 7, math.MinInt + 1, math.MinInt} {
		for length := range 20 {
			checkWrong(t, sip.Hash{V: v, Tail: counting(length), N: n})
		}
	}
}

// P1: so many bytes can't have been, and nothing is promised but that the calls end.
func TestWriteBeyondTheGreatestN(t *testing.T) {
	for length := range 20 {
		h := sip.Hash{Tail: "abcdefg", N: math.MaxInt}
		sip.Done(written(h, counting(length), "x", counting(length)))
	}
}

// P5.2

func TestCutAtEveryPlace(t *testing.T) {
	m := mix(5)
	for _, length := range []int{0, 1, 2, 3, 4, 5, 6, 7, 8, 9, 15, 16, 17, 23, 24, 25, 63, 64, 65, 255, 256, 257, 264, 520} {
		k, s := m.seed(), m.text(length)
		for cut := range length + 1 {
			checkParts(t, k, s, s[:cut], s[cut:])
		}
	}
}

func TestCutAtEveryTwoPlaces(t *testing.T) {
	m := mix(6)
	for length := range 27 {
		k, s := m.seed(), m.text(length)
		for cut := range length + 1 {
			for next := cut; next <= length; next++ {
				checkParts(t, k, s, s[:cut], s[cut:next], s[next:])
			}
		}
	}
}

func TestCutIntoEqualParts(t *testing.T) {
	m := mix(7)
	for _, length := range []int{1, 7, 8, 9, 40, 256, 300} {
		k, s := m.seed(), m.text(length)
		for step := 1; step <= 20; step++ {
			var parts []string
			for at := 0; at < length; at += step {
				parts = append(parts, s[at:min(at+step, length)])
			}
			checkParts(t, k, s, parts...)
		}
	}
}

// The lengths are such that parts of no bytes are many.
func TestCutIntoManyParts(t *testing.T) {
	m := mix(8)
	for _, most := range []int{2, 3, 8, 9, 17, 40} {
		for range 300 {
			k := m.seed()
			var parts []string
			for range m.below(40) {
				parts = append(parts, m.text(m.below(most)))
			}
			checkParts(t, k, strings.Join(parts, ""), parts...)
		}
	}
}

func TestPartsOfNoBytes(t *testing.T) {
	checkParts(t, example, "", "")
	checkParts(t, example, "", "", "", "")
	for length := range 30 {
		s := counting(length)
		checkParts(t, example, s, "", s, "")
		for cut := range length + 1 {
			checkParts(t, example, s, "", s[:cut], "", "", s[cut:], "")
		}
	}
}
