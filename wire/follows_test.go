package wire_test

import (
	"math"
	"strings"
	"testing"

	"samphire/api"
	"samphire/wire"
)

// P8.3

func TestWrittenIsRead(t *testing.T) {
	for _, x := range items() {
		r := &wire.Reader{S: x.bytes}
		checkThere(t, r, x.ask, x.want, len(x.bytes))
		checkDone(t, r, api.OK)
	}
}

func TestAllOfThemOneBehindTheOther(t *testing.T) {
	var s strings.Builder
	for _, x := range items() {
		s.WriteString(x.bytes)
	}
	r := &wire.Reader{S: s.String()}
	at := 0
	for _, x := range items() {
		at += len(x.bytes)
		checkThere(t, r, x.ask, x.want, at)
	}
	checkDone(t, r, api.OK)
}

// writes reads something of each kind, and tells how it would be written, and whether it was there.
func writes() map[string]func(r *wire.Reader) string {
	return map[string]func(r *wire.Reader) string{
		"Number": func(r *wire.Reader) string { return wire.Number(r.Number(maxWord)) },
		"Text":   func(r *wire.Reader) string { return wire.Text(r.Text(math.MaxInt)) },
		"Nat":    func(r *wire.Reader) string { return wire.Nat(r.Nat()) },
		"Rat":    func(r *wire.Reader) string { return wire.Rat(r.Rat()) },
		"Wide":   func(r *wire.Reader) string { return wire.Wide(r.Wide()) },
	}
}

// checkReadWouldBeWritten tells whether there was something.
func checkReadWouldBeWritten(t *testing.T, name, s string, write func(r *wire.Reader) string) bool {
	t.Helper()
	r := &wire.Reader{S: s}
	written := write(r)
	if r.Lost {
		if r.At != 0 {
			t.Fatalf("%s of %q: lost, at %d", name, s, r.At)
		}
		return false
	}
	if written != s[:r.At] {
		t.Fatalf("%s of %q: %q, written %q", name, s, s[:r.At], written)
	}
	return true
}

func TestReadWouldBeWritten(t *testing.T) {
	for name, write := range writes() {
		m := mix(8)
		there, none := 0, 0
		for range 5000 {
			b := []byte(m.text(m.below(40)))
			for i := range b {
				// Few limbs, small ones, and numbers' ends: else next to nothing would be there.
				if m.below(3) > 0 {
					b[i] = byte(m.below(4))
				}
				if m.below(20) == 0 {
					b[i] |= 128
				}
			}
			if checkReadWouldBeWritten(t, name, string(b), write) {
				there++
			} else {
				none++
			}
		}
		if there < 50 || none < 50 {
			t.Errorf("%s: %d times there, %d times not", name, there, none)
		}
	}
}

// Each byte of what is written is turned into others: what is read then is another thing, if it is one.
func TestChangedBytes(t *testing.T) {
	for name, s := range map[string]string{
		"Number": wire.Number(1 << 60),
		"Text":   wire.Text("samphire"),
		"Nat":    wire.Nat(api.Nat{7, 0, 1}),
		"Rat":    wire.Rat(of(api.Nat{2, 3}, api.Nat{0, 5})),
		"Wide":   wire.Wide(api.U128{Hi: 5, Lo: 3}),
	} {
		for at := range len(s) {
			for b := range 256 {
				changed := []byte(s)
				changed[at] = byte(b)
				checkReadWouldBeWritten(t, name, string(changed)+"\x01\x00\x00\x00\x00\x00", writes()[name])
			}
		}
	}
}
