package wide_test

import (
	"math/big"
	"strings"
	"testing"

	"samphire/api"
	"samphire/wide"
)

const all = 1<<64 - 1

var (
	zero = api.U128{}
	most = api.U128{Hi: all, Lo: all}
)

// toBig and fromBig tie the numbers to math/big, which knows nothing of this package.
func toBig(a api.U128) *big.Int {
	n := new(big.Int).SetUint64(a.Hi)
	n.Lsh(n, 64)
	return n.Or(n, new(big.Int).SetUint64(a.Lo))
}

func fromBig(n *big.Int) (api.U128, bool) {
	if n.Sign() < 0 || n.BitLen() > 128 {
		return zero, false
	}
	lo := new(big.Int).And(n, new(big.Int).SetUint64(all))
	hi := new(big.Int).Rsh(n, 64)
	return api.U128{Hi: hi.Uint64(), Lo: lo.Uint64()}, true
}

// edges are all pairs of words at which carries, shifts and signs turn.
func edges() []api.U128 {
	words := []uint64{
		0, 1, 2, 3, 7, 9, 10, 11, 99, 100,
		1<<31 - 1, 1 << 31, 1<<32 - 1, 1 << 32, 1<<32 + 1,
		1<<62 + 1, 1<<63 - 1, 1 << 63, 1<<63 + 1, all - 1, all,
		9999999999999999999, 10000000000000000000,
	}
	var list []api.U128
	for _, hi := range words {
		for _, lo := range words {
			list = append(list, api.U128{Hi: hi, Lo: lo})
		}
	}
	return list
}

// mix is a fixed stream of words (splitmix64), so that each run tests the same numbers.
type mix uint64

func (m *mix) word() uint64 {
	*m += 0x9e3779b97f4a7c15
	z := uint64(*m)
	z = (z ^ z>>30) * 0xbf58476d1ce4e5b9
	z = (z ^ z>>27) * 0x94d049bb133111eb
	return z ^ z>>31
}

// number is of any length of bits, each as often.
func (m *mix) number() api.U128 {
	shift := m.word() % 129
	n := api.U128{Hi: m.word(), Lo: m.word()}
	return api.U128{Hi: n.Hi >> shift, Lo: n.Lo>>shift | n.Hi<<(64-shift) | lowOf(n.Hi, shift)}
}

func lowOf(hi, shift uint64) uint64 {
	if shift < 64 {
		return 0
	}
	return hi >> (shift - 64)
}

// eachPair goes through all pairs of edges, and many others.
func eachPair(do func(a, b api.U128)) {
	list := edges()
	for _, a := range list {
		for _, b := range list {
			do(a, b)
		}
	}
	m := mix(1)
	for range 50000 {
		do(m.number(), m.number())
	}
}

// eachNumber goes through all edges, the powers of 2 and 10 and their neighbours, and many others.
func eachNumber(do func(a api.U128)) {
	for _, a := range edges() {
		do(a)
	}
	for _, base := range []int64{2, 10} {
		power := big.NewInt(1)
		for power.BitLen() <= 129 {
			for _, by := range []int64{-1, 0, 1} {
				if a, ok := fromBig(new(big.Int).Add(power, big.NewInt(by))); ok {
					do(a)
				}
			}
			power.Mul(power, big.NewInt(base))
		}
	}
	m := mix(2)
	for range 50000 {
		do(m.number())
	}
}

// P1.1

func TestOf(t *testing.T) {
	for _, n := range []uint64{0, 1, 10, 1 << 63, all} {
		if got := wide.Of(n); got != (api.U128{Lo: n}) {
			t.Errorf("Of(%d): %v", n, got)
		}
	}
}

func TestCmp(t *testing.T) {
	for _, c := range []struct {
		a, b api.U128
		want int
	}{
		{zero, zero, 0},
		{most, most, 0},
		{zero, most, -1},
		{most, zero, 1},
		{wide.Of(all), api.U128{Hi: 1}, -1},
		{api.U128{Hi: 1}, wide.Of(all), 1},
		{api.U128{Hi: 1, Lo: 2}, api.U128{Hi: 1, Lo: 3}, -1},
		{api.U128{Hi: 1 << 63}, api.U128{Hi: 1}, 1},
		{wide.Of(1 << 63), wide.Of(1), 1},
	} {
		if got := wide.Cmp(c.a, c.b); got != c.want {
			t.Errorf("Cmp(%v, %v): %d", c.a, c.b, got)
		}
	}
	eachPair(func(a, b api.U128) {
		if got, want := wide.Cmp(a, b), toBig(a).Cmp(toBig(b)); got != want {
			t.Fatalf("Cmp(%v, %v): %d, not %d", a, b, got, want)
		}
	})
}

type pairCase struct {
	a, b, want api.U128
	ok         bool
}

func checkCases(t *testing.T, name string, call func(a, b api.U128) (api.U128, bool), cases []pairCase) {
	t.Helper()
	for _, c := range cases {
		if got, ok := call(c.a, c.b); got != c.want || ok != c.ok {
			t.Errorf("%s(%v, %v): %v, %v", name, c.a, c.b, got, ok)
		}
	}
}

func checkPairs(t *testing.T, name string, call func(a, b api.U128) (api.U128, bool), exact func(a, b *big.Int) *big.Int) {
	t.Helper()
	eachPair(func(a, b api.U128) {
		want, wantOK := fromBig(exact(toBig(a), toBig(b)))
		if got, ok := call(a, b); got != want || ok != wantOK {
			t.Fatalf("%s(%v, %v): %v, %v, not %v, %v", name, a, b, got, ok, want, wantOK)
		}
	})
}

func TestAdd(t *testing.T) {
	checkCases(t, "Add", wide.Add, []pairCase{
		{zero, zero, zero, true},
		{wide.Of(2), wide.Of(3), wide.Of(5), true},
		{wide.Of(all), wide.Of(1), api.U128{Hi: 1}, true},
		{most, zero, most, true},
		{api.U128{Hi: all}, wide.Of(all), most, true},
		{most, wide.Of(1), zero, false},
		{wide.Of(1), most, zero, false},
		{most, most, zero, false},
		{api.U128{Hi: 1 << 63}, api.U128{Hi: 1 << 63, Lo: 5}, zero, false},
		{api.U128{Hi: all, Lo: 1 << 63}, wide.Of(1<<63 + 4), zero, false},
	})
	checkPairs(t, "Add", wide.Add, func(a, b *big.Int) *big.Int { return new(big.Int).Add(a, b) })
}

func TestSub(t *testing.T) {
	checkCases(t, "Sub", wide.Sub, []pairCase{
		{zero, zero, zero, true},
		{wide.Of(5), wide.Of(3), wide.Of(2), true},
		{api.U128{Hi: 1}, wide.Of(1), wide.Of(all), true},
		{most, most, zero, true},
		{most, zero, most, true},
		{zero, wide.Of(1), zero, false},
		{zero, most, zero, false},
		{wide.Of(all), api.U128{Hi: 1}, zero, false},
		{api.U128{Hi: 1, Lo: 2}, api.U128{Hi: 1, Lo: 3}, zero, false},
	})
	checkPairs(t, "Sub", wide.Sub, func(a, b *big.Int) *big.Int { return new(big.Int).Sub(a, b) })
}

func TestMul(t *testing.T) {
	checkCases(t, "Mul", wide.Mul, []pairCase{
		{zero, most, zero, true},
		{most, zero, zero, true},
		{most, wide.Of(1), most, true},
		{wide.Of(1), most, most, true},
		{wide.Of(6), wide.Of(7), wide.Of(42), true},
		{wide.Of(1 << 32), wide.Of(1 << 32), api.U128{Hi: 1}, true},
		{wide.Of(all), wide.Of(all), api.U128{Hi: all - 1, Lo: 1}, true},
		{wide.Of(all), api.U128{Hi: 1, Lo: 1}, most, true},
		{api.U128{Hi: 1, Lo: 1}, wide.Of(all), most, true},
		{most, wide.Of(2), zero, false},
		{most, most, zero, false},
		{api.U128{Hi: 1}, api.U128{Hi: 1}, zero, false},
		{api.U128{Hi: 1 << 63}, wide.Of(2), zero, false},
		{wide.Of(2), api.U128{Hi: 1 << 63}, zero, false},
		{api.U128{Hi: 1, Lo: 2}, wide.Of(all), zero, false},
		{wide.Of(all), api.U128{Hi: 1, Lo: 2}, zero, false},
	})
	checkPairs(t, "Mul", wide.Mul, func(a, b *big.Int) *big.Int { return new(big.Int).Mul(a, b) })
}

func TestFull(t *testing.T) {
	check := func(a, b uint64) {
		want, _ := fromBig(new(big.Int).Mul(toBig(wide.Of(a)), toBig(wide.Of(b))))
		if got := wide.Full(a, b); got != want {
			t.Fatalf("Full(%d, %d): %v, not %v", a, b, got, want)
		}
	}
	if got := wide.Full(all, all); got != (api.U128{Hi: all - 1, Lo: 1}) {
		t.Errorf("Full of the greatest: %v", got)
	}
	for _, a := range edges() {
		check(a.Hi, a.Lo)
	}
	m := mix(3)
	for range 50000 {
		check(m.word(), m.word())
	}
}

// P1.2

func checkDiv(t *testing.T, a, b api.U128) {
	t.Helper()
	q, r, ok := wide.Div(a, b)
	if b == zero {
		if q != zero || r != zero || ok {
			t.Fatalf("Div(%v, 0): %v, %v, %v", a, q, r, ok)
		}
		return
	}
	wantQ, wantR := new(big.Int).QuoRem(toBig(a), toBig(b), new(big.Int))
	if !ok || toBig(q).Cmp(wantQ) != 0 || toBig(r).Cmp(wantR) != 0 {
		t.Fatalf("Div(%v, %v): %v, %v, %v, not %v, %v", a, b, q, r, ok, wantQ, wantR)
	}
}

func TestDiv(t *testing.T) {
	for _, c := range []struct{ a, b, q, r api.U128 }{
		{zero, wide.Of(1), zero, zero},
		{zero, most, zero, zero},
		{wide.Of(17), wide.Of(5), wide.Of(3), wide.Of(2)},
		{api.U128{Hi: 1}, wide.Of(3), wide.Of(6148914691236517205), wide.Of(1)},
		{api.U128{Hi: 10, Lo: 7}, wide.Of(10), api.U128{Hi: 1}, wide.Of(7)},
		{wide.Of(5), api.U128{Hi: 1}, zero, wide.Of(5)},
		{most, wide.Of(1), most, zero},
		{most, most, wide.Of(1), zero},
		{most, api.U128{Hi: all, Lo: all - 1}, wide.Of(1), wide.Of(1)},
		{api.U128{Hi: all, Lo: all - 1}, most, zero, api.U128{Hi: all, Lo: all - 1}},
		{most, api.U128{Hi: 1}, wide.Of(all), wide.Of(all)},
		{most, wide.Of(all), api.U128{Hi: 1, Lo: 1}, zero},
	} {
		if q, r, ok := wide.Div(c.a, c.b); q != c.q || r != c.r || !ok {
			t.Errorf("Div(%v, %v): %v, %v, %v", c.a, c.b, q, r, ok)
		}
	}
	eachPair(func(a, b api.U128) { checkDiv(t, a, b) })
}

func TestDivByZero(t *testing.T) {
	for _, a := range []api.U128{zero, wide.Of(1), {Hi: 1}, most} {
		if q, r, ok := wide.Div(a, zero); q != zero || r != zero || ok {
			t.Errorf("Div(%v, 0): %v, %v, %v", a, q, r, ok)
		}
	}
}

// Just below, at, and just above a multiple is where a quotient that is guessed goes wrong.
func TestDivNearMultiples(t *testing.T) {
	m := mix(4)
	for range 20000 {
		b := m.number()
		if b == zero {
			continue
		}
		times, _, _ := wide.Div(m.number(), b)
		multiple, ok := fromBig(new(big.Int).Mul(toBig(times), toBig(b)))
		if !ok {
			t.Fatalf("Div told %v, which times %v is too great", times, b)
		}
		for _, by := range []int64{-1, 0, 1} {
			if a, ok := fromBig(new(big.Int).Add(toBig(multiple), big.NewInt(by))); ok {
				checkDiv(t, a, b)
			}
		}
	}
}

// P1.3

func TestText(t *testing.T) {
	for s, a := range map[string]api.U128{
		"0":                    zero,
		"1":                    wide.Of(1),
		"9":                    wide.Of(9),
		"10":                   wide.Of(10),
		"18446744073709551615": wide.Of(all),
		"18446744073709551616": {Hi: 1},
		"10000000000000000000": wide.Of(10000000000000000000),
		"100000000000000000000000000000000000000": {Hi: 0x4b3b4ca85a86c47a, Lo: 0x098a224000000000},
		"340282366920938463463374607431768211455": most,
	} {
		if got := wide.Text(a); got != s {
			t.Errorf("Text(%v): %q, not %q", a, got, s)
		}
		if got, ok := wide.Read(s); got != a || !ok {
			t.Errorf("Read(%q): %v, %v", s, got, ok)
		}
	}
	eachNumber(func(a api.U128) {
		if got, want := wide.Text(a), toBig(a).String(); got != want {
			t.Fatalf("Text(%v): %q, not %q", a, got, want)
		}
	})
}

func TestReadOfDigits(t *testing.T) {
	eachNumber(func(a api.U128) {
		s := toBig(a).String()
		if got, ok := wide.Read(s); got != a || !ok {
			t.Fatalf("Read(%q): %v, %v", s, got, ok)
		}
	})
}

func checkNoText(t *testing.T, s string) {
	t.Helper()
	if got, ok := wide.Read(s); got != zero || ok {
		t.Errorf("Read(%.50q): %v, %v", s, got, ok)
	}
}

func TestReadOfNoText(t *testing.T) {
	for _, s := range []string{
		"",
		"00", "01", "000", "007", "0340282366920938463463374607431768211455",
		"-", "+", "-0", "+0", "-1", "+1", "1-", "1+",
		" ", " 1", "1 ", "1 2", "\t1", "1\n", "0 ",
		"x", "a1", "1a", "0x1", "0b1", "1e3", "1_000", "1,000", "1.0", "0.", ".5",
		"/", ":", "1/", "1:", "/1", ":1",
		"\x00", "1\x00", "\x001", "\xb1", "1\xff", "\u0663", "\uff11", "\u00b2",
	} {
		checkNoText(t, s)
	}
	for c := range 256 {
		if c < '0' || c > '9' {
			checkNoText(t, string([]byte{byte(c)}))
			checkNoText(t, string([]byte{'1', byte(c)}))
			checkNoText(t, string([]byte{byte(c), '1'}))
		}
	}
}

func TestReadOfTooGreat(t *testing.T) {
	for _, s := range []string{
		"340282366920938463463374607431768211456",
		"340282366920938463463374607431768211457",
		"340282366920938463463374607431768211459",
		"340282366920938463463374607431768211460",
		"340282366920938463463374607431768211465",
		"999999999999999999999999999999999999999",
		"1000000000000000000000000000000000000000",
		"3402823669209384634633746074317682114550",
		// These are 2^129 and 2^192: noughts alone are left of them in 128 bits.
		"680564733841876926926749214863536422912",
		"6277101735386680763835789423207666416102355444464034512896",
		strings.Repeat("9", 1000),
		"1" + strings.Repeat("0", 100000),
	} {
		checkNoText(t, s)
	}
}

// P1.4

func TestSumsAndDifferencesUndoOneAnother(t *testing.T) {
	eachPair(func(a, b api.U128) {
		if sum, ok := wide.Add(a, b); ok {
			if back, ok := wide.Sub(sum, b); back != a || !ok {
				t.Fatalf("%v and %v, less that: %v, %v", a, b, back, ok)
			}
		}
		less, ok := wide.Sub(a, b)
		if ok != (wide.Cmp(a, b) >= 0) {
			t.Fatalf("Sub(%v, %v): %v", a, b, ok)
		}
		if ok {
			if back, ok := wide.Add(less, b); back != a || !ok {
				t.Fatalf("%v less %v, and that: %v, %v", a, b, back, ok)
			}
		}
	})
}

func TestDivIsUndone(t *testing.T) {
	eachPair(func(a, b api.U128) {
		q, r, ok := wide.Div(a, b)
		if ok != (b != zero) {
			t.Fatalf("Div(%v, %v): %v", a, b, ok)
		}
		if !ok {
			return
		}
		taken, fits := wide.Mul(q, b)
		back, sumFits := wide.Add(taken, r)
		if !fits || !sumFits || back != a || wide.Cmp(r, b) >= 0 {
			t.Fatalf("Div(%v, %v): %v, %v", a, b, q, r)
		}
	})
}

func TestTextsAndNumbersGoTogether(t *testing.T) {
	eachNumber(func(a api.U128) {
		s := wide.Text(a)
		back, ok := wide.Read(s)
		if back != a || !ok || wide.Text(back) != s {
			t.Fatalf("%v: %q, %v, %v", a, s, back, ok)
		}
	})
}

// The chapter's example.

func TestCarryOfTheExample(t *testing.T) {
	if got, ok := wide.Add(wide.Of(all), wide.Of(1)); got != (api.U128{Hi: 1, Lo: 0}) || !ok {
		t.Errorf("2^64 less 1, and 1: %v, %v", got, ok)
	}
}
