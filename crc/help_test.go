package crc_test

import (
	"hash/crc32"
	"testing"

	"samphire/crc"
)

// counting is the bytes 0, 1, 2 and so on, with 0 behind 255.
func counting(length int) string {
	text := make([]byte, length)
	for i := range text {
		text[i] = byte(i)
	}
	return string(text)
}

// mix is a fixed stream of words (splitmix64), so that each run tests the same texts.
type mix uint64

func (m *mix) word() uint64 {
	*m += 0x9e3779b97f4a7c15
	z := uint64(*m)
	z = (z ^ z>>30) * 0xbf58476d1ce4e5b9
	z = (z ^ z>>27) * 0x94d049bb133111eb
	return z ^ z>>31
}

func (m *mix) below(n int) int { return int(m.word() % uint64(n)) }

func (m *mix) text(length int) string {
	text := make([]byte, length)
	for i := range text {
		text[i] = byte(m.word())
	}
	return string(text)
}

// modelPlace is the document's sentence on the table, by numbers that are halved, not by bits.
func modelPlace(n uint32) uint32 {
	for range 8 {
		odd := n%2 == 1
		n /= 2
		if odd {
			n ^= 0x82f63b78
		}
	}
	return n
}

// modelMore is the document's sentence on the sum.
// It is itself held against sums that others told.
func modelMore(sum uint32, s string) uint32 {
	n := sum ^ 0xffffffff
	for _, b := range []byte(s) {
		low := n % 256
		n = n / 256
		n ^= modelPlace(low ^ uint32(b))
	}
	return n ^ 0xffffffff
}

// othersMore is the sum that Go's own library tells.
func othersMore(sum uint32, s string) uint32 {
	return crc32.Update(sum, crc32.MakeTable(crc32.Castagnoli), []byte(s))
}

// sums are to go on from: those of few bits and many, and those of which the texts are not known.
func sums() []uint32 {
	all := []uint32{0, 1, 2, 0xff, 0x100, 0xff00, 0x7fffffff, 0x80000000, 0xff000000, 0xfffffffe, 0xffffffff,
		0x82f63b78, 0x7d09c487, 0xe3069283, 0x12345678, 0xdeadbeef}
	for bit := range 32 {
		all = append(all, 1<<bit, ^uint32(1<<bit))
	}
	m := mix(1)
	for range 50 {
		all = append(all, uint32(m.word()))
	}
	return all
}

func checkMore(t *testing.T, sum uint32, s string, want uint32) {
	t.Helper()
	if got := crc.More(sum, s); got != want {
		t.Fatalf("More(%x, %.50q of %d): %x, not %x", sum, s, len(s), got, want)
	}
}

// checkSum holds Sum, and More of 0, against the number.
func checkSum(t *testing.T, s string, want uint32) {
	t.Helper()
	if got := crc.Sum(s); got != want {
		t.Fatalf("Sum(%.50q of %d): %x, not %x", s, len(s), got, want)
	}
	checkMore(t, 0, s, want)
}
