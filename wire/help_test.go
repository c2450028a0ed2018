package wire_test

import (
	"encoding/binary"
	"math"
	"math/big"
	"reflect"
	"slices"
	"strings"
	"testing"

	"samphire/api"
	"samphire/wire"
)

const (
	maxLimb = 1<<32 - 1
	maxWord = 1<<64 - 1
)

// modelNumber is told by Go's own library, which writes numbers in the same way.
func modelNumber(n uint64) string { return string(binary.AppendUvarint(nil, n)) }

func modelText(s string) string { return modelNumber(uint64(len(s))) + s }

// modelLimbs are written whether they are a natural or not.
func modelLimbs(a api.Nat) string {
	out := binary.AppendUvarint(nil, uint64(len(a)))
	for _, limb := range a {
		out = binary.LittleEndian.AppendUint32(out, limb)
	}
	return string(out)
}

// modelPair likewise.
func modelPair(a api.Rat) string { return modelLimbs(a.Num) + modelLimbs(a.Den) }

func modelWide(n api.U128) string {
	out := binary.LittleEndian.AppendUint64(nil, n.Lo)
	return string(binary.LittleEndian.AppendUint64(out, n.Hi))
}

// modelRead is the document's sentence: the number of which the bytes' beginning is what is written.
func modelRead(s string) (uint64, int, bool) {
	for size := 1; size <= len(s); size++ {
		if n, _ := binary.Uvarint([]byte(s[:size])); modelNumber(n) == s[:size] {
			return n, size, true
		}
	}
	return 0, 0, false
}

// limbs is a natural of so many times one limb.
func limbs(count int, limb uint32) api.Nat {
	return slices.Repeat(api.Nat{limb}, count)
}

// most is the greatest natural.
func most() api.Nat { return limbs(api.MaxLimbs, maxLimb) }

func of(num, den api.Nat) api.Rat { return api.Rat{Num: num, Den: den} }

// numbers are those at which one more byte is needed, their neighbours, and others.
func numbers() []uint64 {
	list := []uint64{0, 1, 2, 100, 127, 128, 129, 255, 256, 300, 16383, 16384, math.MaxUint32, math.MaxInt64, maxWord - 1, maxWord}
	for bit := 1; bit < 64; bit++ {
		list = append(list, 1<<bit-1, 1<<bit, 1<<bit+1)
	}
	m := mix(1)
	for range 1000 {
		list = append(list, m.word()>>m.below(64))
	}
	return list
}

func texts() []string {
	list := []string{"", "\x00", "a", "\x80", "\xff", "Grüße, 世界", "\x01\x02\x03", "\xff\xff\xff"}
	m := mix(2)
	for _, size := range []int{2, 63, 64, 65, 126, 127, 128, 129, 300, 16383, 16384, 65536} {
		list = append(list, m.text(size))
	}
	return list
}

func nats() []api.Nat {
	list := []api.Nat{nil, {1}, {maxLimb}, {0, 1}, {1, 2}, {1 << 31}, {0x04030201}, {0x04030201, 0x08070605}, {0, 0, 0, 0x80000000}, most()}
	m := mix(3)
	for count := 1; count <= api.MaxLimbs; count++ {
		list = append(list, m.nat(count), append(make(api.Nat, count-1), 1))
	}
	return list
}

// wrongNats are limbs that are no natural.
func wrongNats() []api.Nat {
	return []api.Nat{
		{0}, {0, 0}, {1, 0}, {5, 0}, {0, 1, 0}, {maxLimb, maxLimb, 0},
		make(api.Nat, api.MaxLimbs),
		append(limbs(api.MaxLimbs-1, 7), 0),
		append(most(), 0),
		append(most(), 1),
		limbs(api.MaxLimbs+1, maxLimb),
		limbs(127, 1), limbs(128, 1),
		limbs(1000, 3),
	}
}

func rats() []api.Rat {
	one := api.Nat{1}
	list := []api.Rat{
		of(nil, one), of(one, one), of(one, api.Nat{2}), of(api.Nat{2}, one), of(api.Nat{2}, api.Nat{3}),
		of(api.Nat{0, 1}, one), of(one, api.Nat{0, 1}), of(api.Nat{0, 1}, api.Nat{1, 1}),
		of(most(), one), of(one, most()), of(most(), append(limbs(1, maxLimb-1), limbs(63, maxLimb)...)),
	}
	m := mix(4)
	for len(list) < 60 {
		a := of(m.nat(m.below(api.MaxLimbs+1)), m.nat(1+m.below(api.MaxLimbs)))
		if isFraction(a) {
			list = append(list, a)
		}
	}
	return list
}

// wrongPairs are of naturals, but no fractions.
func wrongPairs() []api.Rat {
	one := api.Nat{1}
	return []api.Rat{
		{}, of(one, nil), of(most(), nil),
		of(nil, api.Nat{2}), of(nil, api.Nat{0, 1}), of(nil, most()),
		of(api.Nat{2}, api.Nat{2}), of(api.Nat{2}, api.Nat{4}), of(api.Nat{6}, api.Nat{3}), of(api.Nat{15}, api.Nat{35}),
		of(api.Nat{0, 1}, api.Nat{2}), of(api.Nat{2}, api.Nat{0, 1}),
		of(most(), most()), of(most(), api.Nat{3}), of(api.Nat{5}, most()),
	}
}

// wrongRats are all that are no fractions.
func wrongRats() []api.Rat {
	list := wrongPairs()
	for _, bad := range wrongNats() {
		list = append(list, of(bad, api.Nat{1}), of(api.Nat{1}, bad), of(nil, bad), of(bad, nil), of(bad, bad))
	}
	return list
}

// isFraction asks for naturals.
func isFraction(a api.Rat) bool {
	return len(a.Den) > 0 && new(big.Int).GCD(nil, nil, toBig(a.Num), toBig(a.Den)).Cmp(big.NewInt(1)) == 0
}

func toBig(a api.Nat) *big.Int {
	n := new(big.Int)
	for _, limb := range slices.Backward(a) {
		n.Lsh(n, 32).Or(n, big.NewInt(int64(limb)))
	}
	return n
}

func wides() []api.U128 {
	list := []api.U128{{}, {Lo: 1}, {Hi: 1}, {Hi: 1, Lo: 2}, {Lo: maxWord}, {Hi: maxWord}, {Hi: maxWord, Lo: maxWord}, {Hi: 0x100f0e0d0c0b0a09, Lo: 0x0807060504030201}}
	m := mix(5)
	for range 100 {
		list = append(list, api.U128{Hi: m.word(), Lo: m.word()})
	}
	return list
}

// ask is a call of a reader that takes something; none is what it answers where there is nothing.
type ask struct {
	name string
	none any
	do   func(r *wire.Reader) any
}

func askNumber(most uint64) ask {
	return ask{"Number", uint64(0), func(r *wire.Reader) any { return r.Number(most) }}
}

func askText(most int) ask {
	return ask{"Text", "", func(r *wire.Reader) any { return r.Text(most) }}
}

// Lists that are nil and those that are empty are the same.

func askNat() ask {
	return ask{"Nat", api.Nat{}, func(r *wire.Reader) any { return listed(r.Nat()) }}
}

func askRat() ask {
	return ask{"Rat", of(api.Nat{}, api.Nat{}), func(r *wire.Reader) any { return pairOf(r.Rat()) }}
}

func askWide() ask {
	return ask{"Wide", api.U128{}, func(r *wire.Reader) any { return r.Wide() }}
}

func listed(a api.Nat) api.Nat { return append(api.Nat{}, a...) }

func pairOf(a api.Rat) api.Rat { return of(listed(a.Num), listed(a.Den)) }

// asks are all calls that take something, with as much room as there is.
func asks() []ask {
	return []ask{askNumber(maxWord), askText(math.MaxInt), askNat(), askRat(), askWide()}
}

// item is something that is written, and how it is read again.
type item struct {
	bytes string
	ask   ask
	want  any
}

func itemNumber(n uint64) item { return item{wire.Number(n), askNumber(maxWord), n} }

func itemText(s string) item { return item{wire.Text(s), askText(math.MaxInt), s} }

func itemNat(a api.Nat) item { return item{wire.Nat(a), askNat(), listed(a)} }

func itemRat(a api.Rat) item { return item{wire.Rat(a), askRat(), pairOf(a)} }

func itemWide(n api.U128) item { return item{wire.Wide(n), askWide(), n} }

func items() []item {
	var list []item
	for _, n := range numbers() {
		list = append(list, itemNumber(n))
	}
	for _, s := range texts() {
		list = append(list, itemText(s))
	}
	for _, a := range nats() {
		list = append(list, itemNat(a))
	}
	for _, a := range rats() {
		list = append(list, itemRat(a))
	}
	for _, n := range wides() {
		list = append(list, itemWide(n))
	}
	return list
}

// checkThere holds what is asked, and the whole reader then, against what is wanted.
func checkThere(t *testing.T, r *wire.Reader, a ask, want any, at int) {
	t.Helper()
	was := *r
	got := a.do(r)
	if !reflect.DeepEqual(got, want) || *r != (wire.Reader{S: was.S, At: at}) {
		t.Fatalf("%s at %d of %.100q: %v, at %d, lost: %v, not %v, at %d", a.name, was.At, was.S, got, r.At, r.Lost, want, at)
	}
}

// checkNothing likewise where there is nothing, then and ever after.
func checkNothing(t *testing.T, r *wire.Reader, a ask) {
	t.Helper()
	was := *r
	lost := wire.Reader{S: was.S, At: was.At, Lost: true}
	if got := a.do(r); !reflect.DeepEqual(got, a.none) || *r != lost {
		t.Fatalf("%s at %d of %.100q: %v, at %d, lost: %v", a.name, was.At, was.S, got, r.At, r.Lost)
	}
	for _, next := range asks() {
		if got := next.do(r); !reflect.DeepEqual(got, next.none) || *r != lost {
			t.Fatalf("%s behind a lost %s at %d of %.100q: %v, at %d, lost: %v", next.name, a.name, was.At, was.S, got, r.At, r.Lost)
		}
	}
	checkDone(t, r, api.ErrForm)
}

// checkBoth holds the bytes against what is wanted, alone and with others ahead of them and behind.
func checkBoth(t *testing.T, s string, a ask, want any) {
	t.Helper()
	checkThere(t, &wire.Reader{S: s}, a, want, len(s))
	checkThere(t, &wire.Reader{S: "\x80\x80" + s + "\xff\x00", At: 2}, a, want, 2+len(s))
}

// checkNone likewise where there is nothing; what is behind would be, if the bytes' end did not count.
func checkNone(t *testing.T, s string, a ask) {
	t.Helper()
	checkNothing(t, &wire.Reader{S: s}, a)
	checkNothing(t, &wire.Reader{S: "\x01\x01\x02\x00" + s, At: 4}, a)
}

func checkDone(t *testing.T, r *wire.Reader, want api.Errno) {
	t.Helper()
	was := *r
	if got := r.Done(); got != want || *r != was {
		t.Fatalf("Done at %d of %.100q, lost: %v: %d, not %d, %+v", was.At, was.S, was.Lost, got, want, *r)
	}
}

// mix is a fixed stream of words (splitmix64), so that each run tests the same ones.
type mix uint64

func (m *mix) word() uint64 {
	*m += 0x9e3779b97f4a7c15
	z := uint64(*m)
	z = (z ^ z>>30) * 0xbf58476d1ce4e5b9
	z = (z ^ z>>27) * 0x94d049bb133111eb
	return z ^ z>>31
}

func (m *mix) below(n int) int { return int(m.word() % uint64(n)) }

func (m *mix) text(size int) string {
	var out strings.Builder
	for range size {
		out.WriteByte(byte(m.word()))
	}
	return out.String()
}

// nat has just so many limbs.
func (m *mix) nat(count int) api.Nat {
	a := make(api.Nat, count)
	for i := range a {
		a[i] = uint32(m.word())
	}
	if count > 0 {
		a[count-1] |= 1
	}
	return a
}
