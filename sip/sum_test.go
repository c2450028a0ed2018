package sip_test

import (
	"strings"
	"testing"

	"samphire/api"
	"samphire/sip"
)

// P5.1: Sum

// known are the hashes of the bytes 0, 1, 2 and so on, of none up to 63, by the example's seed,
// as another program (OpenSSL) tells them.
var known = []uint64{
	0x726fdb47dd0e0e31, 0x74f839c593dc67fd, 0x0d6c8009d9a94f5a, 0x85676696d7fb7e2d,
	0xcf2794e0277187b7, 0x18765564cd99a68d, 0xcbc9466e58fee3ce, 0xab0200f58b01d137,
	0x93f5f5799a932462, 0x9e0082df0ba9e4b0, 0x7a5dbbc594ddb9f3, 0xf4b32f46226bada7,
	0x751e8fbc860ee5fb, 0x14ea5627c0843d90, 0xf723ca908e7af2ee, 0xa129ca6149be45e5,
	0x3f2acc7f57c29bdb, 0x699ae9f52cbe4794, 0x4bc1b3f0968dd39c, 0xbb6dc91da77961bd,
	0xbed65cf21aa2ee98, 0xd0f2cbb02e3b67c7, 0x93536795e3a33e88, 0xa80c038ccd5ccec8,
	0xb8ad50c6f649af94, 0xbce192de8a85b8ea, 0x17d835b85bbb15f3, 0x2f2e6163076bcfad,
	0xde4daaaca71dc9a5, 0xa6a2506687956571, 0xad87a3535c49ef28, 0x32d892fad841c342,
	0x7127512f72f27cce, 0xa7f32346f95978e3, 0x12e0b01abb051238, 0x15e034d40fa197ae,
	0x314dffbe0815a3b4, 0x027990f029623981, 0xcadcd4e59ef40c4d, 0x9abfd8766a33735c,
	0x0e3ea96b5304a7d0, 0xad0c42d6fc585992, 0x187306c89bc215a9, 0xd4a60abcf3792b95,
	0xf935451de4f21df2, 0xa9538f0419755787, 0xdb9acddff56ca510, 0xd06c98cd5c0975eb,
	0xe612a3cb9ecba951, 0xc766e62cfcadaf96, 0xee64435a9752fe72, 0xa192d576b245165a,
	0x0a8787bf8ecb74b2, 0x81b3e73d20b49b6f, 0x7fa8220ba3b2ecea, 0x245731c13ca42499,
	0xb78dbfaf3a8d83bd, 0xea1ad565322a1a0b, 0x60e61c23a3795013, 0x6606d7e446282b93,
	0x6ca4ecb15c5f91e1, 0x9f626da15c9625f3, 0xe51b38608ef25f57, 0x958a324ceb064572,
}

type knownCase struct {
	k    api.Seed
	s    string
	want uint64
}

// knownOthers are told by the same program.
func knownOthers() []knownCase {
	const most = 1<<64 - 1
	small := api.Seed{A: 3, B: 5}
	return []knownCase{
		{api.Seed{}, "", 0x1e924b9d737700d7},
		{api.Seed{}, "a", 0x96c20860cd93a249},
		{api.Seed{}, "samphire", 0xbfad761e9cc55f65},
		{api.Seed{A: 1}, "samphire", 0xbdee9fc02a9464ba},
		{api.Seed{B: 1}, "samphire", 0x7d910d31c4f1203e},
		{api.Seed{A: most, B: most}, "samphire", 0x3d30b13bc22f1d08},
		{api.Seed{A: most, B: most}, "", 0x35dd279ee86ce565},
		{api.Seed{A: 1 << 63}, "samphir", 0x4f7c97e71e295b1c},
		{api.Seed{B: 1 << 63}, "samphires", 0x6185712af82a7d08},
		{api.Seed{A: example.B, B: example.A}, "samphire", 0x23a3e65520fadff1},
		{small, "\x00", 0x1887be0cead39e46},
		{small, "\x00\x00\x00\x00\x00\x00\x00", 0xda5c1e84b98b6e66},
		{small, "\x00\x00\x00\x00\x00\x00\x00\x00", 0xd7af3d2cae618bd1},
		{small, "\x80\xff\xfe", 0xd2ae1f5852f4ee75},
		{small, strings.Repeat("\xff", 7), 0x4db63fa46f11c4e1},
		{small, strings.Repeat("\xff", 8), 0xdb9f0df9062bb408},
		{small, strings.Repeat("\xff", 300), 0x589eff0e2d3abe6f},
		{small, "Grüße, 世界", 0xa8654edfa62030c5},
		{api.Seed{A: 0x736f6d6570736575, B: 0x646f72616e646f6d}, "the seed undoes the start", 0x6c860aafc8595b38},
	}
}

// knownLong are of 64 bytes and more, up to where the length has more than eight bits, and beyond.
func knownLong() []knownCase {
	return []knownCase{
		{example, counting(64), 0xacd2c40b8502cad8},
		{example, counting(65), 0x36b6bedb91a25924},
		{example, counting(127), 0x9e7db1ba81dc7e3a},
		{example, counting(128), 0xdeb79e256c8736ae},
		{example, counting(255), 0xa9c169fec74db21a},
		{example, counting(256), 0x999d0526d2a7bfd7},
		{example, counting(257), 0x8a817b8d55b29748},
		{example, counting(263), 0x86d801b865760792},
		{example, counting(264), 0xe76e0db3fa0ee85c},
		{example, counting(265), 0x899ec339a463fc50},
		{example, counting(511), 0x969303d05e5af242},
		{example, counting(512), 0x883b57c3e55ada0e},
		{example, counting(513), 0x90b6017f2031622b},
		{example, counting(1000), 0xdb9b3ed69e31c9a6},
		{example, counting(65535), 0xbc3ff5a47b55a468},
		{example, counting(65536), 0x8198936ae10d9342},
		{example, counting(65539), 0x140678be2e765e7d},
		{example, counting(1 << 20), 0x926f4d411f242419},
	}
}

func TestSumOfExamples(t *testing.T) {
	checkSum(t, example, "", 0x726fdb47dd0e0e31)
	checkSum(t, example, counting(15), 0xa129ca6149be45e5)
}

func TestSumOfKnown(t *testing.T) {
	for length, want := range known {
		checkSum(t, example, counting(length), want)
	}
	for _, c := range append(knownOthers(), knownLong()...) {
		checkSum(t, c.k, c.s, c.want)
	}
}

func TestModelOfKnown(t *testing.T) {
	for length, want := range known {
		if got := modelSum(example, counting(length)); got != want {
			t.Errorf("%d bytes: %x, not %x", length, got, want)
		}
	}
	for _, c := range append(knownOthers(), knownLong()...) {
		if got := modelSum(c.k, c.s); got != c.want {
			t.Errorf("%x, %.50q of %d: %x, not %x", c.k, c.s, len(c.s), got, c.want)
		}
	}
}

func TestSumOfMany(t *testing.T) {
	m := mix(1)
	for length := range 1100 {
		k, s := m.seed(), m.text(length)
		checkSum(t, k, s, modelSum(k, s))
	}
	for range 20000 {
		k, s := m.seed(), m.text(m.below(80))
		checkSum(t, k, s, modelSum(k, s))
	}
}

// Each bit of the text and of the seed counts.
func TestSumOfChangedBits(t *testing.T) {
	for _, length := range []int{1, 7, 8, 9, 15, 16, 17, 24} {
		text := []byte(counting(length))
		told := map[uint64]int{sip.Sum(example, string(text)): -1}
		for bit := range 8 * length {
			text[bit/8] ^= 1 << (bit % 8)
			told[sip.Sum(example, string(text))] = bit
			checkSum(t, example, string(text), modelSum(example, string(text)))
			text[bit/8] ^= 1 << (bit % 8)
		}
		for bit := range 64 {
			told[sip.Sum(api.Seed{A: example.A ^ 1<<bit, B: example.B}, string(text))] = bit
			told[sip.Sum(api.Seed{A: example.A, B: example.B ^ 1<<bit}, string(text))] = bit
		}
		if want := 1 + 8*length + 128; len(told) != want {
			t.Errorf("%d bytes: %d hashes, not %d", length, len(told), want)
		}
	}
}

// Noughts that are there and those that are laid behind differ by the length alone.
func TestSumOfNoughts(t *testing.T) {
	told := map[uint64]int{}
	for length := range 600 {
		s := strings.Repeat("\x00", length)
		h := sip.Sum(example, s)
		if other, ok := told[h]; ok {
			t.Errorf("%d and %d noughts: %x", other, length, h)
		}
		told[h] = length
		checkSum(t, example, s, modelSum(example, s))
	}
}
