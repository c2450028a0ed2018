package wire_test

import (
	"slices"
	"strings"
	"testing"

	"samphire/api"
	"samphire/wire"
)

// P8.1

func TestNumberOfKnown(t *testing.T) {
	for _, c := range []struct {
		n    uint64
		want string
	}{
		{300, "\xac\x02"}, // the chapter's example: 172, 2
		{0, "\x00"}, {1, "\x01"}, {127, "\x7f"}, {128, "\x80\x01"}, {129, "\x81\x01"}, {255, "\xff\x01"},
		{1<<14 - 1, "\xff\x7f"}, {1 << 14, "\x80\x80\x01"},
		{1<<63 - 1, "\xff\xff\xff\xff\xff\xff\xff\xff\x7f"},
		{1 << 63, "\x80\x80\x80\x80\x80\x80\x80\x80\x80\x01"},
		{maxWord, "\xff\xff\xff\xff\xff\xff\xff\xff\xff\x01"},
	} {
		if got := wire.Number(c.n); got != c.want {
			t.Errorf("%d: %q, not %q", c.n, got, c.want)
		}
	}
}

func TestNumber(t *testing.T) {
	for _, n := range numbers() {
		if got, want := wire.Number(n), modelNumber(n); got != want {
			t.Errorf("%d: %q, not %q", n, got, want)
		}
	}
}

// One more byte is needed from each power of 128 on, and no sooner.
func TestNumberTakesAsFewAsMayBe(t *testing.T) {
	for size := 1; size < 10; size++ {
		next := uint64(1) << (7 * size)
		if got := len(wire.Number(next - 1)); got != size {
			t.Errorf("%d: %d bytes, not %d", next-1, got, size)
		}
		if got := len(wire.Number(next)); got != size+1 {
			t.Errorf("%d: %d bytes, not %d", next, got, size+1)
		}
	}
	if got := len(wire.Number(maxWord)); got != 10 {
		t.Errorf("the greatest one: %d bytes", got)
	}
}

func TestText(t *testing.T) {
	for s, want := range map[string]string{"": "\x00", "abc": "\x03abc", "\x00": "\x01\x00", "ü": "\x02\xc3\xbc", "\xff\x80": "\x02\xff\x80"} {
		if got := wire.Text(s); got != want {
			t.Errorf("%q: %q, not %q", s, got, want)
		}
	}
	for size, head := range map[int]string{127: "\x7f", 128: "\x80\x01", 300: "\xac\x02", 16384: "\x80\x80\x01"} {
		s := strings.Repeat("x", size)
		if got := wire.Text(s); got != head+s {
			t.Errorf("%d bytes: %.10q, %d in all", size, got, len(got))
		}
	}
	for _, s := range texts() {
		if got, want := wire.Text(s), modelText(s); got != want {
			t.Errorf("%.50q: %.50q, not %.50q", s, got, want)
		}
	}
}

func TestNat(t *testing.T) {
	for _, c := range []struct {
		a    api.Nat
		want string
	}{
		{nil, "\x00"},
		{api.Nat{}, "\x00"},
		{api.Nat{1}, "\x01\x01\x00\x00\x00"},
		{api.Nat{0x04030201}, "\x01\x01\x02\x03\x04"},
		{api.Nat{0, 1}, "\x02\x00\x00\x00\x00\x01\x00\x00\x00"},
		{api.Nat{maxLimb, 0x80000000}, "\x02\xff\xff\xff\xff\x00\x00\x00\x80"},
		{most(), "\x40" + strings.Repeat("\xff", 4*api.MaxLimbs)},
	} {
		if got := wire.Nat(c.a); got != c.want {
			t.Errorf("%x: %q, not %q", c.a, got, c.want)
		}
	}
	for _, a := range nats() {
		was := slices.Clone(a)
		if got, want := wire.Nat(a), modelLimbs(a); got != want || !slices.Equal(a, was) {
			t.Errorf("%x: %q, not %q", was, got, want)
		}
	}
}

func TestNatOfWrong(t *testing.T) {
	for _, bad := range wrongNats() {
		if got := wire.Nat(bad); got != "" {
			t.Errorf("%x: %q", bad, got)
		}
	}
}

func TestRat(t *testing.T) {
	for _, c := range []struct {
		a    api.Rat
		want string
	}{
		{of(nil, api.Nat{1}), "\x00\x01\x01\x00\x00\x00"},
		{of(api.Nat{}, api.Nat{1}), "\x00\x01\x01\x00\x00\x00"},
		{of(api.Nat{2}, api.Nat{3}), "\x01\x02\x00\x00\x00\x01\x03\x00\x00\x00"},
		{of(api.Nat{0, 1}, api.Nat{3}), "\x02\x00\x00\x00\x00\x01\x00\x00\x00\x01\x03\x00\x00\x00"},
	} {
		if got := wire.Rat(c.a); got != c.want {
			t.Errorf("%x: %q, not %q", c.a, got, c.want)
		}
	}
	for _, a := range rats() {
		was := of(slices.Clone(a.Num), slices.Clone(a.Den))
		if got, want := wire.Rat(a), modelPair(a); got != want || !slices.Equal(a.Num, was.Num) || !slices.Equal(a.Den, was.Den) {
			t.Errorf("%x: %q, not %q", was, got, want)
		}
	}
}

func TestRatOfWrong(t *testing.T) {
	for _, bad := range wrongRats() {
		if got := wire.Rat(bad); got != "" {
			t.Errorf("%x: %q", bad, got)
		}
	}
}

func TestWide(t *testing.T) {
	zero := strings.Repeat("\x00", 7)
	for n, want := range map[api.U128]string{
		{}:             "\x00\x00" + zero + zero,
		{Lo: 1}:        "\x01" + zero + "\x00" + zero,
		{Hi: 1}:        "\x00" + zero + "\x01" + zero,
		{Hi: 1, Lo: 2}: "\x02" + zero + "\x01" + zero,
		{Hi: 0x100f0e0d0c0b0a09, Lo: 0x0807060504030201}: "\x01\x02\x03\x04\x05\x06\x07\x08\x09\x0a\x0b\x0c\x0d\x0e\x0f\x10",
		{Hi: maxWord, Lo: maxWord}:                       strings.Repeat("\xff", 16),
	} {
		if got := wire.Wide(n); got != want {
			t.Errorf("%x: %q, not %q", n, got, want)
		}
	}
	for _, n := range wides() {
		if got, want := wire.Wide(n), modelWide(n); got != want {
			t.Errorf("%x: %q, not %q", n, got, want)
		}
	}
}
