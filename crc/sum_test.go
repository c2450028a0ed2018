package crc_test

import (
	"hash/crc32"
	"strings"
	"testing"

	"samphire/crc"
)

// P6.1: Table

func TestTable(t *testing.T) {
	table, others := crc.Table(), crc32.MakeTable(crc32.Castagnoli)
	for n, got := range table {
		if want := modelPlace(uint32(n)); got != want {
			t.Errorf("place %d: %x, not %x", n, got, want)
		}
		if want := others[n]; got != want {
			t.Errorf("place %d: %x, and Go's library has %x", n, got, want)
		}
	}
}

func TestTableOfKnown(t *testing.T) {
	table := crc.Table()
	for n, want := range map[int]uint32{
		0: 0, 1: 0xf26b8303, 2: 0xe13b70f7, 3: 0x1350f3f4, 4: 0xc79a971f, 8: 0x8ad958cf, 16: 0x105ec76f,
		32: 0x20bd8ede, 64: 0x417b1dbc, 128: 0x82f63b78, 254: 0x5f16d052, 255: 0xad7d5351,
	} {
		if got := table[n]; got != want {
			t.Errorf("place %d: %x, not %x", n, got, want)
		}
	}
}

// R1, R4: one table that is written into is no other one, and not that of the sums.
func TestTableIsNew(t *testing.T) {
	before, sum := crc.Table(), crc.Sum(counting(1000))
	written := crc.Table()
	for n := range written {
		written[n] = 0
	}
	if crc.Table() != before {
		t.Error("the table is another one now")
	}
	checkSum(t, counting(1000), sum)
}

// P6.1: Sum, More

type knownCase struct {
	s    string
	want uint32
}

// known are told by the document, the shared tests and RFC 3720 (B.4); those of abc and of the fox by Go's library.
func known() []knownCase {
	falling := []byte(counting(32))
	for i := range falling {
		falling[i] = byte(31 - i)
	}
	scsi := []byte("\x01\xc0" + strings.Repeat("\x00", 46))
	copy(scsi[16:], "\x14\x00\x00\x00\x00\x00\x04\x00\x00\x00\x00\x14\x00\x00\x00\x18\x28\x00\x00\x00\x00\x00\x00\x00\x02")
	return []knownCase{
		{"", 0},
		{"123456789", 0xe3069283},
		{"a", 0xc1d04330},
		{"abc", 0x364b3fb7},
		{"The quick brown fox jumps over the lazy dog", 0x22620404},
		{strings.Repeat("\x00", 32), 0x8a9136aa},
		{strings.Repeat("\xff", 32), 0x62a8ab43},
		{counting(32), 0x46dd794e},
		{string(falling), 0x113fdb5c},
		{string(scsi), 0xd9963a56},
	}
}

func TestSumOfKnown(t *testing.T) {
	for _, c := range known() {
		checkSum(t, c.s, c.want)
	}
}

func TestModelOfKnown(t *testing.T) {
	for _, c := range known() {
		if got := modelMore(0, c.s); got != c.want {
			t.Errorf("%q: %x, not %x", c.s, got, c.want)
		}
	}
	m := mix(2)
	for length := range 300 {
		sum, s := uint32(m.word()), m.text(length)
		if got, want := modelMore(sum, s), othersMore(sum, s); got != want {
			t.Errorf("behind %x, %q: %x, not %x", sum, s, got, want)
		}
	}
}

func TestSumOfNoText(t *testing.T) {
	checkSum(t, "", 0)
	for _, sum := range sums() {
		checkMore(t, sum, "", sum)
	}
}

func TestSumOfOneByte(t *testing.T) {
	for b := range 256 {
		s := string([]byte{byte(b)})
		checkSum(t, s, modelMore(0, s))
		checkSum(t, s, othersMore(0, s))
		for _, sum := range sums() {
			checkMore(t, sum, s, modelMore(sum, s))
		}
	}
}

func TestSumOfEveryLength(t *testing.T) {
	m := mix(3)
	for length := range 1100 {
		for _, s := range []string{m.text(length), counting(length), strings.Repeat("\x00", length), strings.Repeat("\xff", length)} {
			checkSum(t, s, modelMore(0, s))
			checkSum(t, s, othersMore(0, s))
		}
	}
}

func TestSumOfKinds(t *testing.T) {
	for _, s := range []string{
		"samphire", " ", "\n", "\x00", "\x80", "\xff", "Grüße, 世界", "\xc3", "\xef\xbf\xbd", "\xed\xa0\x80",
		"a\x00b", "\x00a", "a\x00", "{\"key\": [1, 2]}", strings.Repeat("samphire ", 1000),
	} {
		checkSum(t, s, modelMore(0, s))
		checkSum(t, s, othersMore(0, s))
	}
}

func TestSumOfLong(t *testing.T) {
	m := mix(4)
	for _, length := range []int{4095, 4096, 4097, 65535, 65536, 65537, 1 << 20, 1<<24 + 1} {
		s := m.text(length)
		checkSum(t, s, othersMore(0, s))
	}
}

func TestSumOfMany(t *testing.T) {
	m := mix(5)
	for range 20000 {
		s := m.text(m.below(80))
		checkSum(t, s, modelMore(0, s))
	}
}

// Noughts at the front and at the end count, in number too.
func TestSumOfNoughts(t *testing.T) {
	told := map[uint32]int{}
	for length := range 600 {
		sum := crc.Sum(strings.Repeat("\x00", length))
		if other, ok := told[sum]; ok {
			t.Errorf("%d and %d noughts: %x", other, length, sum)
		}
		told[sum] = length
	}
}

// Any number is a sum to go on from, also one for which no text was taken.
func TestMoreBehindAny(t *testing.T) {
	m := mix(6)
	for _, sum := range sums() {
		for _, length := range []int{1, 2, 3, 4, 5, 8, 31, 100, 191, 192, 193, 255, 256, 257, 600} {
			s := m.text(length)
			checkMore(t, sum, s, modelMore(sum, s))
			checkMore(t, sum, s, othersMore(sum, s))
		}
	}
	for length := range 600 {
		sum, s := uint32(m.word()), m.text(length)
		checkMore(t, sum, s, modelMore(sum, s))
	}
}

// R1, R4
func TestSumTwice(t *testing.T) {
	for _, length := range []int{0, 1, 9, 192, 193, 1000} {
		text := []byte(counting(length))
		s := string(text)
		first, behind := crc.Sum(s), crc.More(0x12345678, s)
		if crc.Sum(s) != first || crc.More(0x12345678, s) != behind || s != string(text) {
			t.Errorf("%d bytes: unlike the second time", length)
		}
	}
}
