package sip

import (
	"math/bits"

	"samphire/api"
)

// four is what a Hash has as its V: the compiler holds fields in registers, and arrays it does not.
type four struct{ a, b, c, d uint64 }

func fourOf(v [4]uint64) four { return four{v[0], v[1], v[2], v[3]} }

func (f four) array() [4]uint64 { return [4]uint64{f.a, f.b, f.c, f.d} }

func start(k api.Seed) four {
	return four{
		k.A ^ 0x736f6d6570736575,
		k.B ^ 0x646f72616e646f6d,
		k.A ^ 0x6c7967656e657261,
		k.B ^ 0x7465646279746573,
	}
}

// takeEights tells also the bytes behind the last whole eight.
func takeEights(f four, s string) (four, string) {
	for len(s) >= 8 {
		f = take(f, number(s[:8]))
		s = s[8:]
	}
	return f, s
}

// finish asks for a tail of fewer than eight bytes, so that the highest one is free for the length.
func finish(f four, tail string, length int) uint64 {
	// What is shifted out at the top is all but the lowest eight bits.
	f = take(f, number(tail)|uint64(length)<<56)
	f.c ^= 0xff
	for range 4 {
		f = turn(f)
	}
	return f.a ^ f.b ^ f.c ^ f.d
}

func take(f four, n uint64) four {
	f.d ^= n
	f = turn(turn(f))
	f.a ^= n
	return f
}

// number is of at most eight bytes, the lowest first.
func number(s string) uint64 {
	var n uint64
	for i := range len(s) {
		n |= uint64(s[i]) << (8 * i)
	}
	return n
}

func turn(f four) four {
	f.a += f.b
	f.b = bits.RotateLeft64(f.b, 13) ^ f.a
	f.a = bits.RotateLeft64(f.a, 32)
	f.c += f.d
	f.d = bits.RotateLeft64(f.d, 16) ^ f.c
	f.a += f.d
	f.d = bits.RotateLeft64(f.d, 21) ^ f.a
	f.c += f.b
	f.b = bits.RotateLeft64(f.b, 17) ^ f.c
	f.c = bits.RotateLeft64(f.c, 32)
	return f
}
