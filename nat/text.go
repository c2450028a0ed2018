package nat

import (
	"bytes"
	"slices"

	"samphire/api"
)

// Digits go by nines: no greater power of 10 is a limb.
const (
	groupDigits = 9
	groupSize   = 1_000_000_000
)

// Text: decimal digits.
func Text(a api.Nat) string {
	if !Right(a) {
		return ""
	}
	if len(a) == 0 {
		return "0"
	}
	var digits []byte
	for len(a) > 0 {
		q, rest := divShort(a, groupSize)
		digits = withDigits(digits, rest)
		a = q
	}
	digits = bytes.TrimRight(digits, "0")
	slices.Reverse(digits)
	return string(digits)
}

// withDigits writes nine digits, the lowest first.
func withDigits(digits []byte, n uint32) []byte {
	for range groupDigits {
		digits = append(digits, '0'+byte(n%10))
		n /= 10
	}
	return digits
}

// Read: the natural of a text.
func Read(s string) (api.Nat, api.Errno) {
	if !isText(s) {
		return nil, api.ErrForm
	}
	var n api.Nat
	for len(s) > 0 {
		// The first ones are those by which the others can go by nines.
		count := (len(s)-1)%groupDigits + 1
		n = timesAnd(n, groupSize, small(s[:count]))
		if len(n) > api.MaxLimbs {
			return nil, api.ErrBig
		}
		s = s[count:]
	}
	return n, api.OK
}

func isText(s string) bool {
	if s == "" || s[0] == '0' && len(s) > 1 {
		return false
	}
	for i := range len(s) {
		if s[i] < '0' || s[i] > '9' {
			return false
		}
	}
	return true
}

// small asks for at most nine digits.
func small(digits string) uint32 {
	var n uint32
	for i := range len(digits) {
		n = n*10 + uint32(digits[i]-'0')
	}
	return n
}

// timesAnd writes into n itself.
func timesAnd(n api.Nat, times, and uint32) api.Nat {
	carry := uint64(and)
	for i, x := range n {
		t := uint64(x)*uint64(times) + carry
		n[i], carry = uint32(t), t>>limbBits
	}
	if carry != 0 {
		n = append(n, uint32(carry))
	}
	return n
}
