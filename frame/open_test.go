package frame_test

import (
	"math"
	"math/bits"
	"strings"
	"testing"

	"samphire/api"
	"samphire/frame"
)

// P9.2

func TestOpenOfKnown(t *testing.T) {
	for _, c := range known() {
		checkOpen(t, c.want, c.kind, c.payload, api.OK)
	}
}

func TestOpenOfEachKind(t *testing.T) {
	for _, kind := range kinds() {
		for _, payload := range payloads() {
			checkOpen(t, modelFrame(kind, payload), kind, payload, api.OK)
		}
	}
}

func TestOpenOfEverySize(t *testing.T) {
	m := mix(4)
	text := m.text(700)
	for size := range text {
		checkOpen(t, modelFrame(1+size%8, text[:size]), 1+size%8, text[:size], api.OK)
	}
}

// All texts of fewer than six bytes end ahead of a kind.
func TestOpenOfFewBytes(t *testing.T) {
	checkNone(t, "", api.ErrForm)
	for a := range 256 {
		one := string([]byte{byte(a)})
		checkNone(t, one, api.ErrForm)
		for b := range 256 {
			checkNone(t, one+string([]byte{byte(b)}), api.ErrForm)
		}
	}
	m := mix(5)
	for size := 3; size < 11; size++ {
		for range 500 {
			checkNone(t, m.text(size), api.ErrForm)
		}
		checkNone(t, begins[:min(size, len(begins))], api.ErrForm)
		checkNone(t, strings.Repeat("\x00", size), api.ErrForm)
		checkNone(t, strings.Repeat("S", size), api.ErrForm)
	}
}

// Behind what a frame begins with, fewer bytes than it has at least.
func TestOpenOfBeginningAlone(t *testing.T) {
	m := mix(6)
	for size := range 6 {
		for range 500 {
			checkNone(t, begins+m.text(size), api.ErrForm)
		}
		for _, kind := range kinds() {
			checkNone(t, begins+string([]byte{byte(kind)})+strings.Repeat("\x00", max(0, size-1)), api.ErrForm)
			checkNone(t, summed(begins+string([]byte{byte(kind)})), api.ErrForm)
		}
		checkNone(t, summed(begins), api.ErrForm)
		checkNone(t, summed(begins[:size%5]), api.ErrForm)
	}
}

// The sum is right in all of these.
func TestOpenOfWrongBeginning(t *testing.T) {
	for _, payload := range []string{"", "abc", xs(300)} {
		right := head(2, len(payload)) + payload
		for at := range len(begins) {
			for b := range 256 {
				changed := []byte(right)
				if changed[at] = byte(b); b == int(right[at]) {
					continue
				}
				checkNone(t, summed(string(changed)), api.ErrForm)
			}
		}
		behind := right[len(begins):]
		for _, other := range []string{"", "S", "SMPH", "smph\x01", "SMPH1", "SMPH\x00", "SMPH\x02", "SMPH\x81", " SMPH\x01", "SMPH\x01SMPH\x01", "\x01HPMS"} {
			checkNone(t, summed(other+behind), api.ErrForm)
		}
	}
}

// The sum is right in all of these.
func TestOpenOfWrongKind(t *testing.T) {
	for _, payload := range []string{"", "abc", xs(300)} {
		for kind := range 256 {
			s := summed(head(kind, len(payload)) + payload)
			if kind >= 1 && kind <= 8 {
				checkOpen(t, s, kind, payload, api.OK)
			} else {
				checkNone(t, s, api.ErrForm)
			}
		}
		// The kind as a number of two bytes, and as a digit.
		checkNone(t, summed(begins+"\x81\x00"+modelNumber(len(payload))+payload), api.ErrForm)
		checkNone(t, summed(begins+"1"+modelNumber(len(payload))+payload), api.ErrForm)
	}
}

// withSize has a size of which the bytes are given, and the right sum.
func withSize(size, payload string) string { return summed(begins + "\x02" + size + payload) }

func TestOpenOfSizeThatWouldNotBeWrittenSo(t *testing.T) {
	for size, payload := range map[string]string{
		"\x80\x00": "", "\x80\x80\x00": "", "\x80\x80\x80\x80\x80\x80\x80\x80\x80\x00": "",
		"\x81\x00": "a", "\x83\x00": "abc", "\x83\x80\x00": "abc", "\x83\x80\x80\x80\x00": "abc", "\xff\x00": xs(127),
		"\x80\x81\x00": xs(128), "\xac\x82\x00": xs(300), "\x80\x80\x81\x00": xs(16384), "\x80\x80\x84\x00": xs(65536),
		// Of more than 64 bits: less what does not fit, they are right.
		"\x80\x80\x80\x80\x80\x80\x80\x80\x80\x02": "", "\x83\x80\x80\x80\x80\x80\x80\x80\x80\x02": "abc",
		"\x83\x80\x80\x80\x80\x80\x80\x80\x80\x80\x01": "abc", "\x83\x80\x80\x80\x80\x80\x80\x80\x80\x80\x00": "abc",
	} {
		checkNone(t, withSize(size, payload), api.ErrForm)
	}
}

// Sizes that are not that of the payload, though the sum is right: only the size itself is opened.
func TestOpenOfWrongSize(t *testing.T) {
	for _, size := range []int{0, 1, 2, 3, 100, 126, 127, 128, 129, 300} {
		payload := xs(size)
		for other := range size + 400 {
			s := withSize(modelNumber(other), payload)
			if other == size {
				checkOpen(t, s, 2, payload, api.OK)
			} else {
				checkNone(t, s, api.ErrForm)
			}
		}
	}
	for _, other := range []int{0, 1, 127, 128, 16383, 16384, 65531, 65532, 65535, 65537, 65540, 1 << 20} {
		checkNone(t, withSize(modelNumber(other), xs(65536)), api.ErrForm)
	}
}

// As many bytes are there as the size says.
func TestOpenOfTooLong(t *testing.T) {
	checkOpen(t, withSize("\x80\x80\x04", xs(65536)), 2, xs(65536), api.OK)
	for _, size := range []int{65537, 65538, 65664, 131071, 131072, 131073, 1<<21 - 1, 1 << 21, 1<<24 + 1} {
		checkNone(t, withSize(modelNumber(size), xs(size)), api.ErrForm)
	}
}

// Sizes that are much greater than what is there, up to those that are no int.
func TestOpenOfGreatSize(t *testing.T) {
	for _, size := range []int{65536, 65537, 1 << 20, math.MaxInt32, math.MaxInt32 + 1, math.MaxUint32, 1 << 32, 1<<32 + 3, math.MaxInt - 10, math.MaxInt, math.MinInt, math.MinInt + 3, -1, -4} {
		checkNone(t, withSize(modelNumber(size), ""), api.ErrForm)
		checkNone(t, withSize(modelNumber(size), "abc"), api.ErrForm)
	}
}

func TestOpenOfCutOff(t *testing.T) {
	for _, s := range append(few(), modelFrame(3, xs(300)), modelFrame(6, xs(16384)), modelFrame(1, xs(65536))) {
		for cut := range len(s) {
			checkNone(t, s[:cut], api.ErrForm)
		}
	}
}

// What is left has the right sum.
func TestOpenOfCutOffAndSummed(t *testing.T) {
	for _, s := range few() {
		for cut := range len(s) - 4 {
			checkNone(t, summed(s[:cut]), api.ErrForm)
		}
		checkNone(t, summed(s), api.ErrForm)
	}
}

func TestOpenOfBytesBehind(t *testing.T) {
	m := mix(7)
	for _, s := range append(few(), modelFrame(3, xs(65536))) {
		for b := range 256 {
			checkNone(t, s+string([]byte{byte(b)}), api.ErrForm)
		}
		for size := 1; size < 20; size++ {
			checkNone(t, s+m.text(size), api.ErrForm)
			checkNone(t, s+strings.Repeat("\x00", size), api.ErrForm)
		}
		checkNone(t, s+s, api.ErrForm)
		checkNone(t, s+s[len(s)-4:], api.ErrForm)
		checkNone(t, s+"\n", api.ErrForm)
		checkNone(t, summed(s), api.ErrForm)
		checkNone(t, s+xs(1<<20), api.ErrForm)
		checkNone(t, " "+s, api.ErrForm)
	}
}

// withSum has another sum behind what is ahead of its own.
func withSum(s string, sum uint32) string {
	return s[:len(s)-4] + string([]byte{byte(sum), byte(sum >> 8), byte(sum >> 16), byte(sum >> 24)})
}

func TestOpenOfWrongSum(t *testing.T) {
	m := mix(8)
	for _, s := range append(few(), modelFrame(3, xs(65536))) {
		for at := len(s) - 4; at < len(s); at++ {
			for turn := 1; turn < 256; turn++ {
				changed := []byte(s)
				changed[at] ^= byte(turn)
				checkNone(t, string(changed), api.ErrSum)
			}
		}
		payload := s[7 : len(s)-4]
		right := othersSum(s[:len(s)-4])
		for _, sum := range []uint32{0, math.MaxUint32, right + 1, right - 1, ^right, bits.ReverseBytes32(right), bits.Reverse32(right),
			othersSum(payload), othersSum(s), othersSum(s[:6]), othersSum(s[5 : len(s)-4]), othersSum(s[6 : len(s)-4]), uint32(m.word())} {
			if sum != right {
				checkNone(t, withSum(s, sum), api.ErrSum)
			}
		}
	}
}

// What is ahead of the sum is another payload, or of another kind, of which the sum is not told.
func TestOpenOfSumOfAnother(t *testing.T) {
	for _, s := range few() {
		for at := 7; at < len(s)-4; at++ {
			for turn := 1; turn < 256; turn++ {
				changed := []byte(s)
				changed[at] ^= byte(turn)
				if e := checkModel(t, string(changed)); e == api.OK {
					t.Fatalf("%q: opened", changed)
				}
			}
		}
		for _, kind := range kinds() {
			if changed := begins + string([]byte{byte(kind)}) + s[6:]; changed != s {
				checkNone(t, changed, api.ErrSum)
			}
		}
	}
}

// R2: ErrForm is named first.
func TestOpenOfWrongFormAndSum(t *testing.T) {
	const sum = "\x01\x02\x03\x04"
	for _, s := range []string{
		"SMPH\x02\x02\x03abc", "XMPH\x01\x02\x03abc", "SMPH\x01\x00\x03abc", "SMPH\x01\x09\x03abc", "SMPH\x01\xff\x03abc",
		"SMPH\x01\x02\x02abc", "SMPH\x01\x02\x04abc", "SMPH\x01\x02\x83\x00abc", "SMPH\x01\x02",
		"SMPH\x01\x02" + modelNumber(65537) + xs(65537),
	} {
		checkNone(t, s+sum, api.ErrForm)
	}
	checkNone(t, "SMPH\x01\x02\x03abc"+sum, api.ErrSum)
}

// Each byte in turn as each other one, with the sum that was there, and with the one that is right then.
func TestOpenOfEachByteChanged(t *testing.T) {
	for _, s := range few() {
		for at := range len(s) {
			for b := range 256 {
				changed := []byte(s)
				changed[at] = byte(b)
				checkModel(t, string(changed))
				checkModel(t, summed(string(changed[:len(s)-4])))
			}
		}
	}
}

// Texts out of the pieces that frames have, right ones and wrong ones, so that many are a frame and many almost one.
func TestOpenOfPieces(t *testing.T) {
	m := mix(9)
	one := func(list ...string) string { return list[m.below(len(list))] }
	told := map[api.Errno]int{}
	for range 30000 {
		s := one(begins, begins, begins, begins, "", "SMPH", "SMPH\x02", begins+begins)
		s += one("\x01", "\x02", "\x05", "\x08", "\x00", "\x09", "", "\x81")
		s += one("\x00", "\x03abc", "\x01\x00", "\x80\x01"+xs(128), "\x02abc", "\x04abc", "\x80\x00", "\x83\x00abc", "\x80\x80\x04", "")
		if m.below(3) == 0 {
			s += m.text(4)
		} else {
			s = summed(s)
		}
		s += one("", "", "", "\x00", "abcd")
		told[checkModel(t, s)]++
	}
	if told[api.OK] < 1000 || told[api.ErrSum] < 500 || told[api.ErrForm] < 1000 {
		t.Errorf("%v", told)
	}
}

// R1, R4
func TestOpenTwice(t *testing.T) {
	for _, s := range few() {
		text := []byte(s)
		kind, payload, e := frame.Open(s)
		checkNone(t, s[1:], api.ErrForm)
		checkOpen(t, s, kind, payload, e)
		if s != string(text) {
			t.Errorf("%q: changed", text)
		}
	}
}

// R1: a payload that stood within the frame would hold all of it in memory.
func TestOpenAnswersNewMemory(t *testing.T) {
	for _, size := range []int{1, 100, 65536} {
		s := modelFrame(1, xs(size))
		if _, payload, _ := frame.Open(s); within(payload, s) {
			t.Errorf("%d bytes: one memory", size)
		}
	}
}
