package frame_test

import (
	"encoding/binary"
	"hash/crc32"
	"math"
	"strings"
	"testing"

	"samphire/api"
	"samphire/frame"
)

// begins is what the chapter says that a frame begins with.
const begins = "SMPH\x01"

// mix is a fixed stream of words (splitmix64), so that each run tests the same texts.
type mix uint64

func (m *mix) word() uint64 {
	*m += 0x9e3779b97f4a7c15
	z := uint64(*m)
	z = (z ^ z>>30) * 0xbf58476d1ce4e5b9
	z = (z ^ z>>27) * 0x94d049bb133111eb
	return z ^ z>>31
}

func (m *mix) below(n int) int { return int(m.word() % uint64(n)) }

func (m *mix) text(size int) string {
	text := make([]byte, size)
	for i := range text {
		text[i] = byte(m.word())
	}
	return string(text)
}

// modelNumber is told by Go's own library, which writes numbers in layer 8's way.
func modelNumber(n int) string { return string(binary.AppendUvarint(nil, uint64(n))) }

// othersSum is the sum that Go's own library tells.
func othersSum(s string) uint32 {
	return crc32.Checksum([]byte(s), crc32.MakeTable(crc32.Castagnoli))
}

// summed is the bytes with their sum behind, whatever they are.
func summed(s string) string {
	return string(binary.LittleEndian.AppendUint32([]byte(s), othersSum(s)))
}

// head is all that stands ahead of the payload.
func head(kind, size int) string { return begins + string([]byte{byte(kind)}) + modelNumber(size) }

func modelFrame(kind int, payload string) string {
	return summed(head(kind, len(payload)) + payload)
}

// modelOpen finds the payload's size by how many bytes there are in all, of which each size has its own.
func modelOpen(s string) (int, string, api.Errno) {
	for size := len(s) - len(head(1, 0)) - 4; size >= 0; size-- {
		if len(head(1, size))+size+4 != len(s) {
			continue
		}
		for kind := 1; kind <= 8; kind++ {
			ahead := head(kind, size)
			if size > 65536 || !strings.HasPrefix(s, ahead) {
				continue
			}
			payload := s[len(ahead) : len(ahead)+size]
			if s != modelFrame(kind, payload) {
				return 0, "", api.ErrSum
			}
			return kind, payload, api.OK
		}
		break
	}
	return 0, "", api.ErrForm
}

// kinds are all that there are.
func kinds() []int { return []int{1, 2, 3, 4, 5, 6, 7, 8} }

// wrongKinds have the byte of a right one, too, if no more than a byte were looked at.
func wrongKinds() []int {
	list := []int{0, 9, 10, 15, 16, 127, 128, 129, 255, 256, -1, -2, -7, -8, -9, -128, -255, -256,
		math.MaxInt, math.MaxInt - 1, math.MinInt, math.MinInt + 1, math.MaxInt32, math.MinInt32}
	for _, kind := range kinds() {
		for _, step := range []int{8, 16, 32, 63} {
			list = append(list, kind+1<<step)
		}
		list = append(list, kind-256, -kind)
	}
	return list
}

// sizes are those at which the size's number takes one byte more, the greatest one, and others.
func sizes() []int {
	return []int{0, 1, 2, 3, 4, 5, 8, 63, 64, 65, 126, 127, 128, 129, 130, 191, 192, 193, 255, 256, 300, 1000,
		16382, 16383, 16384, 16385, 20000, 32768, 65534, 65535, 65536}
}

// payloads are of all sizes, and some that look like what is about them.
func payloads() []string {
	list := []string{"", "\x00", "\x01", "\x80", "\xff", "abc", "\x02\x00", "Grüße, 世界", "\xc3", "SMPH", begins, begins + "\x01",
		"\x00\x00\x00\x00", "\xff\xff\xff\xff", modelFrame(1, ""), modelFrame(8, "abc"), modelFrame(2, modelFrame(3, "a"))}
	m := mix(1)
	for _, size := range sizes() {
		list = append(list, m.text(size), strings.Repeat("\x00", size), strings.Repeat("\xff", size))
	}
	return list
}

// few are frames that are short enough to be tried at every place.
func few() []string {
	m := mix(2)
	list := []string{modelFrame(1, ""), modelFrame(8, ""), modelFrame(2, "abc"), modelFrame(3, "\x02\x00"),
		modelFrame(4, strings.Repeat("\x00", 20)), modelFrame(5, strings.Repeat("\xff", 20)), modelFrame(6, begins)}
	for _, size := range []int{1, 4, 40, 127, 128, 200} {
		list = append(list, modelFrame(7, m.text(size)))
	}
	return list
}

func checkSeal(t *testing.T, kind int, payload, want string, e api.Errno) {
	t.Helper()
	if got, f := frame.Seal(kind, payload); got != want || f != e {
		t.Fatalf("Seal(%d, %.50q of %d): %.80q of %d, %d, not %.80q of %d, %d",
			kind, payload, len(payload), got, len(got), f, want, len(want), e)
	}
}

func checkOpen(t *testing.T, s string, kind int, payload string, e api.Errno) {
	t.Helper()
	if k, p, f := frame.Open(s); k != kind || p != payload || f != e {
		t.Fatalf("Open(%.80q of %d): %d, %.50q of %d, %d, not %d, %.50q of %d, %d",
			s, len(s), k, p, len(p), f, kind, payload, len(payload), e)
	}
}

func checkNone(t *testing.T, s string, e api.Errno) {
	t.Helper()
	checkOpen(t, s, 0, "", e)
}

// checkModel holds Open against the model, and what is opened against what is sealed.
func checkModel(t *testing.T, s string) api.Errno {
	t.Helper()
	kind, payload, e := modelOpen(s)
	checkOpen(t, s, kind, payload, e)
	if e == api.OK {
		checkSeal(t, kind, payload, s, api.OK)
	}
	return e
}
