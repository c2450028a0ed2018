package frame_test

import (
	"strings"
	"testing"
	"unsafe"

	"samphire/api"
	"samphire/frame"
)

type knownFrame struct {
	kind    int
	payload string
	want    string
}

// known are frames bytes for bytes; their sums were told by a program of its own, that takes the highest bits first.
func known() []knownFrame {
	return []knownFrame{
		{1, "", "SMPH\x01\x01\x00\x06\xc0\x62\x85"},
		{2, "", "SMPH\x01\x02\x00\x9f\x68\x85\xb1"},
		{3, "", "SMPH\x01\x03\x00\xe8\xf0\x27\xa2"},
		{4, "", "SMPH\x01\x04\x00\xad\x39\x4a\xd8"},
		{5, "", "SMPH\x01\x05\x00\xda\xa1\xe8\xcb"},
		{6, "", "SMPH\x01\x06\x00\x43\x09\x0f\xff"},
		{7, "", "SMPH\x01\x07\x00\x34\x91\xad\xec"},
		{8, "", "SMPH\x01\x08\x00\xc9\x9b\xd4\x0b"},
		{2, "abc", "SMPH\x01\x02\x03abc\x80\x2f\xc2\x49"},
		{3, "\x02\x00", "SMPH\x01\x03\x02\x02\x00\x24\xc4\x6e\x8c"},
		{8, "123456789", "SMPH\x01\x08\x09123456789\xce\xe3\xbd\x9e"},
		{5, "\x00", "SMPH\x01\x05\x01\x00\x14\xea\x25\xf9"},
		{1, "SMPH\x01", "SMPH\x01\x01\x05SMPH\x01\xd6\x90\x19\x92"},
		{7, xs(127), "SMPH\x01\x07\x7f" + xs(127) + "\x5c\xe2\x9d\xa5"},
		{7, xs(128), "SMPH\x01\x07\x80\x01" + xs(128) + "\x1e\x69\x7e\xe1"},
		{4, strings.Repeat("y", 16383), "SMPH\x01\x04\xff\x7f" + strings.Repeat("y", 16383) + "\x56\xe0\xc2\xa5"},
		{4, strings.Repeat("y", 16384), "SMPH\x01\x04\x80\x80\x01" + strings.Repeat("y", 16384) + "\x01\xd4\x76\x0b"},
		{6, strings.Repeat("z", 65535), "SMPH\x01\x06\xff\xff\x03" + strings.Repeat("z", 65535) + "\xc0\xf2\xeb\x3d"},
		{6, strings.Repeat("z", 65536), "SMPH\x01\x06\x80\x80\x04" + strings.Repeat("z", 65536) + "\x06\x11\x46\xb0"},
	}
}

func xs(count int) string { return strings.Repeat("x", count) }

// P9.1

func TestMaxPayload(t *testing.T) {
	if frame.MaxPayload != 65536 {
		t.Errorf("%d", frame.MaxPayload)
	}
}

func TestSealOfKnown(t *testing.T) {
	for _, c := range known() {
		checkSeal(t, c.kind, c.payload, c.want, api.OK)
	}
}

func TestSealOfEachKind(t *testing.T) {
	for _, kind := range kinds() {
		for _, payload := range payloads() {
			checkSeal(t, kind, payload, modelFrame(kind, payload), api.OK)
		}
	}
}

func TestSealOfEverySize(t *testing.T) {
	m := mix(3)
	text := m.text(700)
	for size := range text {
		checkSeal(t, 1+size%8, text[:size], modelFrame(1+size%8, text[:size]), api.OK)
	}
}

func TestSealOfOneByte(t *testing.T) {
	for b := range 256 {
		payload := string([]byte{byte(b)})
		checkSeal(t, 3, payload, modelFrame(3, payload), api.OK)
	}
}

func TestSealOfWrongKind(t *testing.T) {
	for _, kind := range wrongKinds() {
		for _, size := range []int{0, 3, 65536} {
			checkSeal(t, kind, xs(size), "", api.ErrArg)
		}
	}
}

func TestSealOfTooLong(t *testing.T) {
	for _, size := range []int{65537, 65538, 65664, 70000, 131071, 131072, 131073, 1 << 20, 1<<24 + 5} {
		for _, kind := range kinds() {
			checkSeal(t, kind, xs(size), "", api.ErrLong)
		}
	}
}

// R2: ErrArg is named first.
func TestSealOfWrongKindAndTooLong(t *testing.T) {
	for _, kind := range wrongKinds() {
		checkSeal(t, kind, xs(65537), "", api.ErrArg)
	}
}

// R1, R4
func TestSealTwice(t *testing.T) {
	payload := []byte(modelFrame(5, "samphire"))
	first, _ := frame.Seal(4, string(payload))
	if _, e := frame.Seal(9, ""); e != api.ErrArg {
		t.Error("of no kind")
	}
	checkSeal(t, 4, string(payload), first, api.OK)
}

// R1: the payload that is handed in, and what is answered, are in places of their own.
func TestSealAnswersNewMemory(t *testing.T) {
	for _, size := range []int{1, 100, 65536} {
		payload := strings.Clone(xs(size))
		s, _ := frame.Seal(1, payload)
		if within(payload, s) || within(s, payload) {
			t.Errorf("%d bytes: one memory", size)
		}
	}
}

// within: does a begin in b's bytes?
func within(a, b string) bool {
	at := uintptr(unsafe.Pointer(unsafe.StringData(a)))
	from := uintptr(unsafe.Pointer(unsafe.StringData(b)))
	return len(a) > 0 && at >= from && at < from+uintptr(len(b))
}
