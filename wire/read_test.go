package wire_test

import (
	"math"
	"slices"
	"strings"
	"testing"
	"unsafe"

	"samphire/api"
	"samphire/wire"
)

// P8.2: Number

func TestReadNumberOfKnown(t *testing.T) {
	for s, want := range map[string]uint64{
		"\xac\x02": 300, // the chapter's example
		"\x00":     0, "\x01": 1, "\x7f": 127, "\x80\x01": 128, "\xff\x7f": 1<<14 - 1, "\x80\x80\x01": 1 << 14,
		"\x80\x80\x80\x80\x80\x80\x80\x80\x80\x01": 1 << 63,
		"\xff\xff\xff\xff\xff\xff\xff\xff\x7f":     1<<63 - 1,
		"\xff\xff\xff\xff\xff\xff\xff\xff\xff\x01": maxWord,
	} {
		checkBoth(t, s, askNumber(maxWord), want)
	}
}

func TestReadNumberOfWrong(t *testing.T) {
	nine := strings.Repeat("\xff", 9)
	noughts := strings.Repeat("\x80", 9)
	for _, s := range []string{
		// cut off
		"", "\x80", "\xff", "\xac", "\x80\x80", "\xff\xff\xff", nine, noughts,
		// with a 0 behind
		"\x80\x00", "\xff\x00", "\x81\x00", "\x80\x80\x00", "\xac\x82\x00", nine + "\x00", noughts + "\x00", nine[1:] + "\x00",
		// of more than 64 bits
		nine + "\x02", nine + "\x03", nine + "\x04", nine + "\x7f", noughts + "\x02", noughts + "\x40", noughts + "\x03",
		// of more than ten bytes
		nine + "\x80", nine + "\x81", nine + "\xff", nine + "\x81\x00", nine + "\x80\x01", nine + "\xff\x01", nine + "\x80\x00",
		noughts + "\x80\x00", noughts + "\x80\x01", noughts + "\x81\x00", noughts + "\x81\x01", noughts + "\x82\x01",
		strings.Repeat("\x80", 63) + "\x01", strings.Repeat("\x80", 64) + "\x01", strings.Repeat("\x80", 1000) + "\x01",
		strings.Repeat("\xff", 1000), strings.Repeat("\x80", 1000),
	} {
		checkNone(t, s, askNumber(maxWord))
	}
}

// checkModelNumber holds Number against the model.
func checkModelNumber(t *testing.T, s string) bool {
	t.Helper()
	r := &wire.Reader{S: s}
	want, at, ok := modelRead(s)
	if ok {
		checkThere(t, r, askNumber(maxWord), want, at)
	} else {
		checkNothing(t, r, askNumber(maxWord))
	}
	return ok
}

func TestReadNumberOfAllShort(t *testing.T) {
	checkModelNumber(t, "")
	for a := range 256 {
		checkModelNumber(t, string([]byte{byte(a)}))
		for b := range 256 {
			checkModelNumber(t, string([]byte{byte(a), byte(b)}))
		}
	}
}

// The bytes just ahead of the last one that a number may have, the last one itself, and those behind.
func TestReadNumberOfLong(t *testing.T) {
	edges := []byte{0, 1, 2, 3, 4, 0x3f, 0x40, 0x41, 0x7e, 0x7f, 0x80, 0x81, 0x82, 0xc0, 0xfe, 0xff}
	for _, head := range []string{"\x80", "\xff", "\x81"} {
		for size := range 12 {
			for _, a := range edges {
				for _, b := range edges {
					checkModelNumber(t, strings.Repeat(head, size)+string([]byte{a, b}))
				}
			}
		}
	}
}

func TestReadNumberOfMany(t *testing.T) {
	m := mix(6)
	there, none := 0, 0
	for range 20000 {
		b := []byte(m.text(m.below(12)))
		for i := range b {
			if m.below(4) > 0 {
				b[i] |= 128
			}
		}
		if checkModelNumber(t, string(b)) {
			there++
		} else {
			none++
		}
	}
	if there < 1000 || none < 1000 {
		t.Errorf("%d times there, %d times not", there, none)
	}
}

func TestReadNumberUpToMost(t *testing.T) {
	for _, n := range numbers() {
		s := modelNumber(n)
		checkBoth(t, s, askNumber(n), n)
		if n < maxWord {
			checkBoth(t, s, askNumber(n+1), n)
		}
		if n > 0 {
			checkNone(t, s, askNumber(n-1))
			checkNone(t, s, askNumber(0))
		}
	}
	checkBoth(t, "\x00", askNumber(0), uint64(0))
}

// P8.2: Text

func TestReadText(t *testing.T) {
	for s, want := range map[string]string{"\x00": "", "\x03abc": "abc", "\x01\x00": "\x00", "\x02\xff\x80": "\xff\x80"} {
		checkBoth(t, s, askText(math.MaxInt), want)
	}
	for _, s := range texts() {
		checkBoth(t, modelText(s), askText(math.MaxInt), s)
	}
}

func TestReadTextUpToMost(t *testing.T) {
	for _, s := range texts() {
		checkBoth(t, modelText(s), askText(len(s)), s)
		checkBoth(t, modelText(s), askText(len(s)+1), s)
		// What is above most by one, and, of no bytes, what is above a most below 0.
		checkNone(t, modelText(s), askText(len(s)-1))
		checkNone(t, modelText(s), askText(-1))
		checkNone(t, modelText(s), askText(math.MinInt))
	}
}

func TestReadTextOfWrong(t *testing.T) {
	for _, s := range []string{
		"", "\x01", "\x02x", "\x03ab", "\x7f" + strings.Repeat("x", 126), "\x80\x01" + strings.Repeat("x", 127),
		// sizes that a number would not be written as
		"\x80", "\x80\x00", "\x81\x00x", "\xff\xff\xff\xff\xff\xff\xff\xff\xff\x02" + "xyz",
		// sizes beyond any text, of which the lowest bits alone would do
		"\x80\x80\x80\x80\x10" + "xyz", "\x81\x80\x80\x80\x10" + "xyz", "\x83\x80\x80\x80\x80\x80\x80\x80\x80\x01" + "xyz",
		"\xff\xff\xff\xff\xff\xff\xff\xff\x7f" + "xyz", "\xff\xff\xff\xff\xff\xff\xff\xff\xff\x01" + "xyz",
	} {
		for _, most := range []int{math.MaxInt, math.MaxInt - 1, math.MaxInt32, 1000, 3, 0, -1} {
			checkNone(t, s, askText(most))
		}
	}
}

// A text that was read must not hold all bytes in memory.
func TestReadTextIsNew(t *testing.T) {
	for _, size := range []int{1, 3, 1000} {
		s := modelText(strings.Repeat("x", size))
		r := &wire.Reader{S: s}
		got := r.Text(size)
		from := uintptr(unsafe.Pointer(unsafe.StringData(s)))
		at := uintptr(unsafe.Pointer(unsafe.StringData(got)))
		if at >= from && at < from+uintptr(len(s)) {
			t.Errorf("the text of %d bytes is a piece of those that were read", size)
		}
	}
}

// P8.2: Nat and Rat

func TestReadNat(t *testing.T) {
	for _, a := range nats() {
		checkBoth(t, modelLimbs(a), askNat(), listed(a))
	}
}

func TestReadNatOfWrong(t *testing.T) {
	for _, bad := range wrongNats() {
		checkNone(t, modelLimbs(bad), askNat())
	}
	for _, s := range []string{
		"", "\x01", "\x01\x01", "\x01\x01\x00\x00", "\x02\x01\x00\x00\x00", "\x02\x01\x00\x00\x00\x01\x00\x00",
		// how many limbs there are is not written as it should be
		"\x80", "\x80\x00", "\x81\x00\x01\x00\x00\x00",
		// more than there may be, and more than could be told: four bytes each would be few again
		"\x41" + strings.Repeat("\x01", 4*65), "\xff\xff\xff\xff\xff\xff\xff\xff\xff\x01",
		"\x81\x80\x80\x80\x80\x80\x80\x80\x40\x01\x00\x00\x00", "\x81\x80\x80\x80\x80\x80\x80\x80\xc0\x01\x01\x00\x00\x00",
		"\x81\x80\x80\x80\x04\x01\x00\x00\x00", "\x81\x80\x80\x80\x10\x01\x00\x00\x00",
	} {
		checkNone(t, s, askNat())
	}
}

// The limbs that are answered are nobody else's.
func TestReadNatIsNew(t *testing.T) {
	r := &wire.Reader{S: modelLimbs(api.Nat{1, 2}) + modelLimbs(api.Nat{1, 2})}
	first := r.Nat()
	first[0] = 9
	if second := r.Nat(); !slices.Equal(second, api.Nat{1, 2}) {
		t.Errorf("%v", second)
	}
}

func TestReadRat(t *testing.T) {
	for _, a := range rats() {
		checkBoth(t, modelPair(a), askRat(), pairOf(a))
	}
}

// At stays ahead of both naturals, though each of them is there.
func TestReadRatOfNoFraction(t *testing.T) {
	for _, bad := range wrongRats() {
		checkNone(t, modelPair(bad), askRat())
	}
	for _, bad := range wrongPairs() {
		r := &wire.Reader{S: modelPair(bad)}
		checkThere(t, r, askNat(), listed(bad.Num), len(modelLimbs(bad.Num)))
		checkThere(t, r, askNat(), listed(bad.Den), len(r.S))
		checkDone(t, r, api.OK)
	}
}

func TestReadRatOfWrong(t *testing.T) {
	for _, s := range []string{"", "\x00", "\x01\x01\x00\x00\x00", "\x00\x01\x01\x00\x00", "\x80\x00\x01\x01\x00\x00\x00", "\x00\x81\x00\x01\x00\x00\x00"} {
		checkNone(t, s, askRat())
	}
}

// P8.2: Wide

func TestReadWide(t *testing.T) {
	for _, n := range wides() {
		checkBoth(t, modelWide(n), askWide(), n)
	}
}

// P8.2: what is cut off, and which reader there is

// One byte fewer is too few, and so is any number of them: what is asked is all there, or nothing is.
func TestReadCutOff(t *testing.T) {
	for _, x := range items() {
		step := max(1, len(x.bytes)/300)
		for size := 0; size < len(x.bytes); size += step {
			checkNone(t, x.bytes[:size], x.ask)
		}
		checkNone(t, x.bytes[:len(x.bytes)-1], x.ask)
	}
}

func TestReadOneBehindTheOther(t *testing.T) {
	m := mix(7)
	all := items()
	for range 200 {
		var row []item
		var s strings.Builder
		for range m.below(30) {
			row = append(row, all[m.below(len(all))])
			s.WriteString(row[len(row)-1].bytes)
		}
		r := &wire.Reader{S: s.String()}
		at := 0
		for _, x := range row {
			at += len(x.bytes)
			checkThere(t, r, x.ask, x.want, at)
			if at < len(r.S) {
				checkDone(t, r, api.ErrForm)
			}
		}
		checkDone(t, r, api.OK)
	}
}

// At may be moved, and what begins there is read, whether something begins there or not.
func TestReadFromAnyPlace(t *testing.T) {
	s := "\x03abc" + "\xac\x02" + "\x00"
	for at, want := range []uint64{3, 'a', 'b', 'c', 300, 2, 0} {
		size := 1
		if at == 4 {
			size = 2
		}
		checkThere(t, &wire.Reader{S: s, At: at}, askNumber(maxWord), want, at+size)
	}
}

func TestReadAtTheEnd(t *testing.T) {
	for _, s := range []string{"", "\x00", "\x01\x02\x03", strings.Repeat("\x01", 100)} {
		for _, a := range asks() {
			r := &wire.Reader{S: s, At: len(s)}
			checkDone(t, r, api.OK)
			checkNothing(t, r, a)
		}
	}
}

// The last byte that is left is a number, an empty text, or a natural of no limbs, and not more.
func TestReadOneByteBeforeTheEnd(t *testing.T) {
	s := "\x01\x01\x00"
	for _, a := range asks()[:3] {
		r := &wire.Reader{S: s, At: 2}
		checkDone(t, r, api.ErrForm)
		checkThere(t, r, a, a.none, 3)
		checkDone(t, r, api.OK)
	}
	for _, a := range asks()[3:] {
		checkNothing(t, &wire.Reader{S: s, At: 2}, a)
	}
}

// Of one that is Lost there is nothing, whatever stands there.
func TestReadOfLost(t *testing.T) {
	for _, x := range items()[:40] {
		for _, at := range []int{0, 1, -1, len(x.bytes), len(x.bytes) + 1, math.MinInt, math.MaxInt} {
			checkNothing(t, &wire.Reader{S: x.bytes, At: at, Lost: true}, x.ask)
		}
	}
	for _, a := range asks() {
		for _, s := range []string{"", "\x00", strings.Repeat("\x00", 100), strings.Repeat("\x01\x01\x00\x00\x00", 10)} {
			for at := range len(s) + 1 {
				checkNothing(t, &wire.Reader{S: s, At: at, Lost: true}, a)
			}
		}
	}
}

func TestReadOfWrongAt(t *testing.T) {
	for _, s := range []string{"", "\x00", "\x00\x00\x00", strings.Repeat("\x00", 100), strings.Repeat("\x01\x01\x00\x00\x00", 10)} {
		for _, at := range []int{-1, -2, -len(s) - 1, math.MinInt, len(s) + 1, len(s) + 2, math.MaxInt} {
			checkDone(t, &wire.Reader{S: s, At: at}, api.ErrForm)
			checkNothing(t, &wire.Reader{S: s, At: at}, askNumber(0))
			checkNothing(t, &wire.Reader{S: s, At: at}, askText(0))
			for _, a := range asks() {
				checkNothing(t, &wire.Reader{S: s, At: at}, a)
			}
		}
	}
}

func TestDone(t *testing.T) {
	for _, s := range []string{"", "\x00", "\x80", "abc"} {
		for at := -2; at <= len(s)+2; at++ {
			want := api.ErrForm
			if at == len(s) {
				want = api.OK
			}
			checkDone(t, &wire.Reader{S: s, At: at}, want)
			checkDone(t, &wire.Reader{S: s, At: at, Lost: true}, api.ErrForm)
		}
	}
}

func TestNoReader(t *testing.T) {
	var none *wire.Reader
	if n := none.Number(maxWord); n != 0 {
		t.Errorf("Number: %d", n)
	}
	if s := none.Text(math.MaxInt) + none.Text(0) + none.Text(-1); s != "" {
		t.Errorf("Text: %q", s)
	}
	if a := none.Nat(); len(a) != 0 {
		t.Errorf("Nat: %v", a)
	}
	if a := none.Rat(); len(a.Num) != 0 || len(a.Den) != 0 {
		t.Errorf("Rat: %v", a)
	}
	if n := none.Wide(); n != (api.U128{}) {
		t.Errorf("Wide: %v", n)
	}
	if e := none.Done(); e != api.ErrForm {
		t.Errorf("Done: %d", e)
	}
}
