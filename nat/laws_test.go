package nat_test

import (
	"slices"
	"testing"

	"samphire/api"
	"samphire/nat"
)

// P2.4

func TestSumsAndProductsGoBothWays(t *testing.T) {
	eachPair(func(a, b api.Nat) {
		for _, call := range []pairCall{nat.Add, nat.Mul} {
			one, e := call(a, b)
			other, otherE := call(b, a)
			if e != otherE || !slices.Equal(one, other) {
				t.Fatalf("of %v and %v: %v, %d, and %v, %d", a, b, one, e, other, otherE)
			}
			checkNatural(t, one)
		}
	})
}

func TestProductsOfSums(t *testing.T) {
	m := mix(5)
	for range 3000 {
		a, b, c := m.number(20), m.number(20), m.number(20)
		left := must(t, nat.Mul, must(t, nat.Add, a, b), c)
		right := must(t, nat.Add, must(t, nat.Mul, a, c), must(t, nat.Mul, b, c))
		if nat.Cmp(left, right) != 0 {
			t.Fatalf("of %v, %v and %v: %v, and %v", a, b, c, left, right)
		}
		left = must(t, nat.Mul, must(t, nat.Mul, a, b), c)
		right = must(t, nat.Mul, a, must(t, nat.Mul, b, c))
		if nat.Cmp(left, right) != 0 {
			t.Fatalf("of %v, %v and %v: %v, and %v", a, b, c, left, right)
		}
	}
}

func TestSumsAndDifferencesUndoOneAnother(t *testing.T) {
	eachPair(func(a, b api.Nat) {
		if sum, e := nat.Add(a, b); e == api.OK {
			if back := must(t, nat.Sub, sum, b); !slices.Equal(back, a) {
				t.Fatalf("%v and %v, less that: %v", a, b, back)
			}
		}
		less, e := nat.Sub(a, b)
		if (e == api.OK) != (nat.Cmp(a, b) >= 0) {
			t.Fatalf("Sub(%v, %v): %d", a, b, e)
		}
		if e == api.OK {
			if back := must(t, nat.Add, less, b); !slices.Equal(back, a) {
				t.Fatalf("%v less %v, and that: %v", a, b, back)
			}
		}
	})
}

func TestDivIsUndone(t *testing.T) {
	eachPair(func(a, b api.Nat) {
		q, r, e := nat.Div(a, b)
		if e != api.OK {
			return
		}
		checkNatural(t, q)
		checkNatural(t, r)
		back := must(t, nat.Add, must(t, nat.Mul, q, b), r)
		if !slices.Equal(back, a) || nat.Cmp(r, b) >= 0 {
			t.Fatalf("Div(%v, %v): %v, %v", a, b, q, r)
		}
	})
}

func TestGcdGoesInBoth(t *testing.T) {
	m := mix(6)
	for range 2000 {
		a, b := m.number(16), m.number(16)
		d := must(t, nat.Gcd, a, b)
		if other := must(t, nat.Gcd, b, a); !slices.Equal(d, other) {
			t.Fatalf("Gcd of %v and %v: %v, and %v", a, b, d, other)
		}
		if len(d) == 0 {
			continue
		}
		left, restA, _ := nat.Div(a, d)
		right, restB, _ := nat.Div(b, d)
		if len(restA) != 0 || len(restB) != 0 {
			t.Fatalf("Gcd(%v, %v): %v", a, b, d)
		}
		// Nothing more is in common.
		if more := must(t, nat.Gcd, left, right); !slices.Equal(more, api.Nat{1}) {
			t.Fatalf("Gcd(%v, %v): %v leaves %v", a, b, d, more)
		}
	}
}

func TestTextsAndNaturalsGoTogether(t *testing.T) {
	eachNumber(func(a api.Nat) {
		if len(a) > api.MaxLimbs {
			return
		}
		s := nat.Text(a)
		back, e := nat.Read(s)
		if !slices.Equal(back, a) || e != api.OK || nat.Text(back) != s {
			t.Fatalf("%v: %q, %v, %d", a, s, back, e)
		}
	})
}

// R1: what is handed in stays as it was, and what is answered is new memory.

func answers() map[string]func(a, b api.Nat) []api.Nat {
	pair := func(call pairCall) func(a, b api.Nat) []api.Nat {
		return func(a, b api.Nat) []api.Nat {
			got, _ := call(a, b)
			return []api.Nat{got}
		}
	}
	return map[string]func(a, b api.Nat) []api.Nat{
		"Add": pair(nat.Add),
		"Sub": pair(nat.Sub),
		"Mul": pair(nat.Mul),
		"Gcd": pair(nat.Gcd),
		"Div": func(a, b api.Nat) []api.Nat {
			q, r, _ := nat.Div(a, b)
			return []api.Nat{q, r}
		},
		"all that answer no natural": func(a, b api.Nat) []api.Nat {
			nat.Right(a)
			nat.Cmp(a, b)
			nat.Bits(a)
			nat.Text(a)
			return nil
		},
	}
}

// spoil writes into all that a list could share with another one.
func spoil(a api.Nat) {
	a = a[:cap(a)]
	for i := range a {
		a[i] = 0xabcdef
	}
}

func TestNothingIsShared(t *testing.T) {
	list := append(edges(), api.Nat{5, 6, 7, 8, 9}, api.Nat{1}, api.Nat{5, 6, 7})
	for name, call := range answers() {
		for _, a := range list {
			for _, b := range list {
				wasA, wasB := slices.Clone(a), slices.Clone(b)
				got := call(a, b)
				for i := range got {
					others := slices.Concat(got[i+1:]...)
					spoil(got[i])
					if !slices.Equal(others, slices.Concat(got[i+1:]...)) {
						t.Fatalf("%s(%v, %v): its answers share memory", name, wasA, wasB)
					}
				}
				if !slices.Equal(a, wasA) || !slices.Equal(b, wasB) {
					t.Fatalf("%s(%v, %v): now %v, %v", name, wasA, wasB, a, b)
				}
			}
		}
	}
}
