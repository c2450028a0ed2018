package wire

import (
	"strings"

	"samphire/api"
	"samphire/nat"
	"samphire/rat"
)

// missing is what a panic ends with what was asked: it is not there.
type missing struct{}

// need stands for an error that each step would otherwise hand up to the one that asked.
func need(there bool) {
	if !there {
		panic(missing{})
	}
}

// rest is the bytes that a reader has still ahead, less those that were taken since.
type rest struct{ s string }

func ahead(r *Reader) *rest {
	need(!r.Lost && r.At >= 0 && r.At <= len(r.S))
	return &rest{s: r.S[r.At:]}
}

// take asks for a count that is not below 0.
func (left *rest) take(count int) string {
	need(count <= len(left.s))
	taken := left.s[:count]
	left.s = left.s[count:]
	return taken
}

func (left *rest) number(most uint64) uint64 {
	var n uint64
	for shift := 0; shift < 64; shift += bitsOfByte {
		b := left.take(1)[0]
		n |= uint64(b%moreBehind) << shift
		if b < moreBehind {
			// A 0 behind others is one byte too many.
			need(b != 0 || shift == 0)
			// Bits above the 64 are shifted out, and would be lost without a word.
			need(n>>shift == uint64(b))
			need(n <= most)
			return n
		}
	}
	panic(missing{})
}

func (left *rest) text(most int) string {
	need(most >= 0)
	s := left.take(int(left.number(uint64(most))))
	// A piece of the bytes would hold all of them in memory.
	return strings.Clone(s)
}

func (left *rest) nat() api.Nat {
	// Asked for at once, so that no room is made for limbs that are not there.
	s := left.take(limbBytes * int(left.number(api.MaxLimbs)))
	var a api.Nat
	for ; len(s) > 0; s = s[limbBytes:] {
		a = append(a, uint32(fromLowest(s[:limbBytes])))
	}
	need(nat.Right(a))
	return a
}

func (left *rest) rat() api.Rat {
	num := left.nat()
	den := left.nat()
	a := api.Rat{Num: num, Den: den}
	need(rat.Right(a))
	return a
}

func (left *rest) wide() api.U128 {
	lo := fromLowest(left.take(wordBytes))
	hi := fromLowest(left.take(wordBytes))
	return api.U128{Hi: hi, Lo: lo}
}

// fromLowest asks for at most eight bytes.
func fromLowest(s string) uint64 {
	var n uint64
	for i := range len(s) {
		n |= uint64(s[i]) << (8 * i)
	}
	return n
}
