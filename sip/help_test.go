package sip_test

import (
	"encoding/binary"
	"testing"

	"samphire/api"
	"samphire/sip"
)

// example is the seed of the document's examples.
var example = api.Seed{A: 0x0706050403020100, B: 0x0f0e0d0c0b0a0908}

// counting is the bytes 0, 1, 2 and so on, with 0 behind 255.
func counting(length int) string {
	text := make([]byte, length)
	for i := range text {
		text[i] = byte(i)
	}
	return string(text)
}

// mix is a fixed stream of words (splitmix64), so that each run tests the same texts.
type mix uint64

func (m *mix) word() uint64 {
	*m += 0x9e3779b97f4a7c15
	z := uint64(*m)
	z = (z ^ z>>30) * 0xbf58476d1ce4e5b9
	z = (z ^ z>>27) * 0x94d049bb133111eb
	return z ^ z>>31
}

func (m *mix) below(n int) int { return int(m.word() % uint64(n)) }

func (m *mix) seed() api.Seed { return api.Seed{A: m.word(), B: m.word()} }

func (m *mix) text(length int) string {
	text := make([]byte, length)
	for i := range text {
		text[i] = byte(m.word())
	}
	return string(text)
}

// model is the document's, sentence by sentence, of a whole text at once, that has its end laid behind it.
// It is itself held against hashes that another program told.
type model struct{ a, b, c, d uint64 }

func left(n uint64, by int) uint64 { return n<<by | n>>(64-by) }

func (m *model) turn() {
	m.a += m.b
	m.b = left(m.b, 13)
	m.b ^= m.a
	m.a = left(m.a, 32)
	m.c += m.d
	m.d = left(m.d, 16)
	m.d ^= m.c
	m.a += m.d
	m.d = left(m.d, 21)
	m.d ^= m.a
	m.c += m.b
	m.b = left(m.b, 17)
	m.b ^= m.c
	m.c = left(m.c, 32)
}

// take asks for whole eights.
func (m *model) take(text []byte) {
	for at := 0; at < len(text); at += 8 {
		n := binary.LittleEndian.Uint64(text[at:])
		m.d ^= n
		m.turn()
		m.turn()
		m.a ^= n
	}
}

func modelOf(k api.Seed) *model {
	words := []byte("uespemosmodnarodarenegylsetybdet")
	return &model{
		k.A ^ binary.LittleEndian.Uint64(words),
		k.B ^ binary.LittleEndian.Uint64(words[8:]),
		k.A ^ binary.LittleEndian.Uint64(words[16:]),
		k.B ^ binary.LittleEndian.Uint64(words[24:]),
	}
}

// end is of a text of so many bytes, of which the last ones are the tail.
func (m *model) end(tail string, length int) uint64 {
	text := append([]byte(tail), make([]byte, 8-len(tail)%8)...)
	text[len(text)-1] = byte(length)
	m.take(text)
	m.c ^= 0xff
	for range 4 {
		m.turn()
	}
	return m.a ^ m.b ^ m.c ^ m.d
}

func modelSum(k api.Seed, s string) uint64 { return modelOf(k).end(s, len(s)) }

// modelHash is the one that goes on, of a whole text.
func modelHash(k api.Seed, s string) sip.Hash {
	m := modelOf(k)
	whole := len(s) / 8 * 8
	m.take([]byte(s[:whole]))
	return sip.Hash{V: [4]uint64{m.a, m.b, m.c, m.d}, Tail: s[whole:], N: len(s)}
}

func written(h sip.Hash, parts ...string) sip.Hash {
	for _, s := range parts {
		h = sip.Write(h, s)
	}
	return h
}

func checkSum(t *testing.T, k api.Seed, s string, want uint64) {
	t.Helper()
	if got := sip.Sum(k, s); got != want {
		t.Fatalf("Sum(%x, %.50q of %d): %x, not %x", k, s, len(s), got, want)
	}
}

// checkParts holds the hash that goes on, and the hash, against those of the whole text.
func checkParts(t *testing.T, k api.Seed, s string, parts ...string) {
	t.Helper()
	h := written(sip.New(k), parts...)
	if want := modelHash(k, s); h != want {
		t.Fatalf("%x, %.300q written: %v, not %v", k, parts, h, want)
	}
	if got, want := sip.Done(h), modelSum(k, s); got != want {
		t.Fatalf("%x, %.300q written and done: %x, not %x", k, parts, got, want)
	}
	checkSum(t, k, s, sip.Done(h))
}
