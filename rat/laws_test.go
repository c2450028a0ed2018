package rat_test

import (
	"slices"
	"testing"

	"samphire/api"
	"samphire/rat"
)

// P3.4

func TestWhatIsAnsweredIsAFraction(t *testing.T) {
	for name, do := range calls() {
		eachPair(func(a, b api.Rat) {
			if got, e := do(a, b); e == api.OK && !rat.Right(got) {
				t.Fatalf("%s(%v, %v): %v", name, a, b, got)
			}
		})
	}
}

func TestSumsAndProductsGoBothWays(t *testing.T) {
	eachPair(func(a, b api.Rat) {
		for _, do := range []call{rat.Add, rat.Mul} {
			one, e := do(a, b)
			other, otherE := do(b, a)
			if e != otherE || !equal(one, other) {
				t.Fatalf("of %v and %v: %v, %d, and %v, %d", a, b, one, e, other, otherE)
			}
		}
		one, e := rat.Cmp(a, b)
		other, otherE := rat.Cmp(b, a)
		if e != otherE || one != -other {
			t.Fatalf("Cmp of %v and %v: %d, %d, and %d, %d", a, b, one, e, other, otherE)
		}
	})
}

func TestOfThree(t *testing.T) {
	m := mix(3)
	for range 1000 {
		a, b, c := m.fraction(6), m.fraction(6), m.fraction(6)
		for _, do := range []call{rat.Add, rat.Mul} {
			left := must(t, do, must(t, do, a, b), c)
			right := must(t, do, a, must(t, do, b, c))
			if !equal(left, right) {
				t.Fatalf("of %v, %v and %v: %v, and %v", a, b, c, left, right)
			}
		}
		left := must(t, rat.Mul, must(t, rat.Add, a, b), c)
		right := must(t, rat.Add, must(t, rat.Mul, a, c), must(t, rat.Mul, b, c))
		if !equal(left, right) {
			t.Fatalf("of %v, %v and %v: %v, and %v", a, b, c, left, right)
		}
		if compared(t, a, b) <= 0 && compared(t, b, c) <= 0 && compared(t, a, c) > 0 {
			t.Fatalf("of %v, %v and %v: no order", a, b, c)
		}
	}
}

func TestOneUndoesTheOther(t *testing.T) {
	m := mix(4)
	for range 1000 {
		a, b := m.fraction(10), m.fraction(10)
		if back := must(t, rat.Sub, must(t, rat.Add, a, b), b); !equal(back, a) {
			t.Fatalf("%v and %v, less that: %v", a, b, back)
		}
		less, e := rat.Sub(a, b)
		if below := compared(t, a, b) < 0; below != (e == api.ErrArg) {
			t.Fatalf("Sub(%v, %v): %d", a, b, e)
		}
		if e == api.OK && !equal(must(t, rat.Add, less, b), a) {
			t.Fatalf("%v less %v, and that: not %v", a, b, a)
		}
		if len(b.Num) == 0 {
			continue
		}
		if back := must(t, rat.Div, must(t, rat.Mul, a, b), b); !equal(back, a) {
			t.Fatalf("%v by %v, over that: %v", a, b, back)
		}
		if back := must(t, rat.Mul, must(t, rat.Div, a, b), b); !equal(back, a) {
			t.Fatalf("%v over %v, by that: %v", a, b, back)
		}
	}
}

func TestZeroAndOne(t *testing.T) {
	zero, one := rat.Whole(0), rat.Whole(1)
	for _, a := range edges() {
		for name, got := range map[string]api.Rat{
			"and 0":  must(t, rat.Add, a, zero),
			"less 0": must(t, rat.Sub, a, zero),
			"by 1":   must(t, rat.Mul, a, one),
			"over 1": must(t, rat.Div, a, one),
		} {
			if !equal(got, a) {
				t.Errorf("%v %s: %v", a, name, got)
			}
		}
		if got := must(t, rat.Mul, a, zero); !equal(got, zero) {
			t.Errorf("%v by 0: %v", a, got)
		}
		if compared(t, zero, a) > 0 {
			t.Errorf("%v is below 0", a)
		}
	}
}

// R1: what is handed in stays as it was, and what is answered is new memory.

// spoil writes into all that a list could share with another one.
func spoil(a api.Nat) {
	a = a[:cap(a)]
	for i := range a {
		a[i] = 0xabcdef
	}
}

func copied(a api.Rat) api.Rat { return of(slices.Clone(a.Num), slices.Clone(a.Den)) }

func TestNothingIsShared(t *testing.T) {
	list := append(edges(), wrong()...)
	for name, do := range calls() {
		for _, a := range list {
			for _, b := range []api.Rat{a, small(0, 1), small(1, 1), small(5, 6), small(2, 2)} {
				wasA, wasB := copied(a), copied(b)
				got, _ := do(a, b)
				den := slices.Clone(got.Den)
				spoil(got.Num)
				if !slices.Equal(got.Den, den) {
					t.Fatalf("%s(%v, %v): its Num and Den share memory", name, wasA, wasB)
				}
				spoil(got.Den)
				if !equal(a, wasA) || !equal(b, wasB) {
					t.Fatalf("%s(%v, %v): now %v, %v", name, wasA, wasB, a, b)
				}
			}
		}
	}
	one := rat.Whole(1)
	spoil(one.Num)
	spoil(one.Den)
	if got := rat.Whole(1); !equal(got, small(1, 1)) {
		t.Errorf("Whole(1): %v", got)
	}
}

func TestNothingIsWritten(t *testing.T) {
	for _, a := range append(edges(), wrong()...) {
		was := copied(a)
		rat.Right(a)
		rat.Text(a)
		rat.Cmp(a, a)
		if !equal(a, was) {
			t.Errorf("%v: now %v", was, a)
		}
	}
}
