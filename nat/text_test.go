package nat_test

import (
	"math/big"
	"slices"
	"strings"
	"testing"

	"samphire/api"
	"samphire/nat"
)

// P2.3

func TestText(t *testing.T) {
	for _, c := range []struct {
		a    api.Nat
		want string
	}{
		{nil, "0"},
		{api.Nat{}, "0"},
		{api.Nat{1}, "1"},
		{api.Nat{9}, "9"},
		{api.Nat{10}, "10"},
		{api.Nat{999999999}, "999999999"},
		{api.Nat{1000000000}, "1000000000"},
		{api.Nat{maxLimb}, "4294967295"},
		{api.Nat{0, 1}, "4294967296"},
		{nat.Of(1000000000000000000), "1000000000000000000"},
		{nat.Of(1000000001000000001), "1000000001000000001"},
		{nat.Of(maxWord), "18446744073709551615"},
		{nat.From(api.U128{Hi: 1}), "18446744073709551616"},
		{limbs(4, maxLimb), "340282366920938463463374607431768211455"},
	} {
		if got := nat.Text(c.a); got != c.want {
			t.Errorf("Text(%v): %q, not %q", c.a, got, c.want)
		}
	}
	eachNumber(func(a api.Nat) {
		if len(a) > api.MaxLimbs {
			return
		}
		if got, want := nat.Text(a), toBig(a).String(); got != want {
			t.Fatalf("Text(%v): %q, not %q", a, got, want)
		}
	})
}

// checkRead asks for ErrBig just where the number has too many limbs.
func checkRead(t *testing.T, s string) {
	t.Helper()
	exact, _ := new(big.Int).SetString(s, 10)
	want, wantE := fromBig(exact), api.OK
	if len(want) > api.MaxLimbs {
		want, wantE = nil, api.ErrBig
	}
	if got, e := nat.Read(s); !slices.Equal(got, want) || e != wantE {
		t.Fatalf("Read(%q): %v, %d, not %v, %d", s, got, e, want, wantE)
	}
}

func TestReadOfDigits(t *testing.T) {
	for _, s := range []string{"0", "1", "9", "10", "999999999", "1000000000", "1000000001", "18446744073709551616"} {
		checkRead(t, s)
	}
	for count := range 700 {
		for _, first := range "123459" {
			checkRead(t, string(first)+strings.Repeat("0", count))
			checkRead(t, string(first)+strings.Repeat("9", count))
		}
	}
	eachNumber(func(a api.Nat) { checkRead(t, toBig(a).String()) })
}

func TestReadOfTooBig(t *testing.T) {
	bound := new(big.Int).Lsh(big.NewInt(1), 32*api.MaxLimbs)
	last := new(big.Int).Sub(bound, big.NewInt(1)).String()
	if got, e := nat.Read(last); !slices.Equal(got, most()) || e != api.OK {
		t.Errorf("Read of 2^2048 less 1: %v, %d", got, e)
	}
	for _, s := range []string{
		bound.String(),
		new(big.Int).Add(bound, big.NewInt(1)).String(),
		// Of this noughts alone are left in 64 limbs.
		new(big.Int).Lsh(bound, 32).String(),
		last + "0",
		strings.Repeat("9", 618),
		"1" + strings.Repeat("0", 1<<20),
	} {
		if got, e := nat.Read(s); len(got) != 0 || e != api.ErrBig {
			t.Errorf("Read(%.30q of %d): %v, %d", s, len(s), got, e)
		}
	}
}

func checkNoText(t *testing.T, s string) {
	t.Helper()
	if got, e := nat.Read(s); len(got) != 0 || e != api.ErrForm {
		t.Errorf("Read(%.50q of %d): %v, %d", s, len(s), got, e)
	}
}

func TestReadOfNoText(t *testing.T) {
	for _, s := range []string{
		"",
		"00", "01", "000", "007", "0000000000", "04294967296",
		"-", "+", "-0", "+0", "-1", "+1", "1-", "1+",
		" ", " 1", "1 ", "1 2", "\t1", "1\n", "0 ",
		"x", "a1", "1a", "0x1", "0b1", "1e3", "1_000", "1,000", "1.0", "0.", ".5",
		"\x00", "1\x00", "\x001", "\xb1", "1\xff", "\u0663", "\uff11", "\u00b2",
	} {
		checkNoText(t, s)
	}
	for c := range 256 {
		if c < '0' || c > '9' {
			checkNoText(t, string([]byte{byte(c)}))
			checkNoText(t, string([]byte{'1', byte(c)}))
			checkNoText(t, string([]byte{byte(c), '1'}))
		}
	}
}

// What is no text is an ErrForm even where its digits would be too big: that is named first.
func TestReadOfLongNoText(t *testing.T) {
	for _, count := range []int{8, 9, 10, 616, 617, 618, 700, 1 << 20} {
		digits := strings.Repeat("9", count)
		checkNoText(t, digits+"a")
		checkNoText(t, "a"+digits)
		checkNoText(t, "0"+digits)
		checkNoText(t, strings.Repeat("0", count))
		checkNoText(t, "-"+digits)
		checkNoText(t, digits+" ")
		checkNoText(t, digits+"/"+digits)
		checkNoText(t, digits+":"+digits)
	}
}
