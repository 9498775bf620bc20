package frame_test

import (
	"bytes"
	"hash/adler32"
	"slices"
	"testing"

	"coinage/api"
	"coinage/frame"
)

// P7.1: checksums that are known.
func TestAdlerCases(t *testing.T) {
	for text, want := range map[string]uint32{
		"": 1, "\x00": 0x00010001, "\x01": 0x00020002, "\xff": 0x01000100, "a": 0x00620062, "ab": 0x012600C4, "ba": 0x012700C4, "abc": 0x024D0127,
		"Wikipedia": 0x11E60398, "\x00\x00\x00": 0x00030001,
	} {
		if got := frame.Adler([]byte(text)); got != want {
			t.Errorf("P7.1: Adler of %q = %#x, want %#x", text, got, want)
		}
	}
	if got := frame.Adler(nil); got != 1 {
		t.Errorf("P7.1: Adler of nil = %d", got)
	}
}

// P7.1: checksums of many lengths, where both sums reach their modulus.
func TestAdler(t *testing.T) {
	for _, n := range []int{0, 1, 2, 3, 10, 100, 255, 256, 257, 258, 300, 1000, 5552, 5553, 8192, 65520, 65521, 65522, 1 << 20} {
		for _, b := range patterns(n) {
			if got := frame.Adler(b); got != adler(b) || got != adler32.Checksum(b) {
				t.Errorf("P7.1: Adler of %d bytes %.20v = %#x, want %#x", n, b, got, adler(b))
			}
		}
	}
	for n := range 1000 {
		b := bytes.Repeat([]byte{0xFF}, n)
		if got := frame.Adler(b); got != adler(b) {
			t.Errorf("P7.1: Adler of %d times 255 = %#x, want %#x", n, got, adler(b))
		}
	}
	// The sums are 0, and one below their modulus.
	zero := append(bytes.Repeat([]byte{0xFF}, 256), 240)
	below := append(bytes.Repeat([]byte{0xFF}, 256), 239)
	if x, y := frame.Adler(zero), frame.Adler(below); x&0xFFFF != 0 || y&0xFFFF != 65520 || x != adler(zero) || y != adler(below) {
		t.Errorf("P7.1: Adler = %#x and %#x", x, y)
	}
}

// lengths are some lengths of data, with those where the bytes of the length
// change, and the limit.
var lengths = []int{0, 1, 2, 3, 7, 127, 128, 254, 255, 256, 257, 511, 512, 4095, 4096, 4097, 8190, 8191, 8192}

// checkOpen compares Open with what it is to return.
func checkOpen(t *testing.T, b []byte, want opened) {
	t.Helper()
	kind, data, rest, e := frame.Open(b)
	if kind != want.kind || !bytes.Equal(data, want.data) || !bytes.Equal(rest, want.rest) || e != want.e {
		t.Fatalf("P7.1: Open of %d bytes %.40v: %d, %d bytes %.20v, %d bytes, %d; want %d, %d bytes, %d bytes, %d",
			len(b), b, kind, len(data), data, len(rest), e, want.kind, len(want.data), len(want.rest), want.e)
	}
}

// P7.1, P7.2: frames of all kinds and many lengths, which are read back, with
// any bytes after them.
func TestSeal(t *testing.T) {
	for _, n := range lengths {
		for _, data := range patterns(n) {
			for _, kind := range kinds {
				b, e := frame.Seal(kind, data)
				if e != api.OK || !bytes.Equal(b, sealed(kind, data)) {
					t.Fatalf("P7.1: Seal(%d, %d bytes): %.20v %d", kind, n, b, e)
				}
				for _, tail := range tails {
					checkOpen(t, slices.Concat(b, tail), opened{kind, data, tail, api.OK})
				}
			}
		}
	}
	for kind := range 256 {
		b, e := frame.Seal(byte(kind), []byte("COIN1"))
		if e != api.OK || !bytes.Equal(b, sealed(byte(kind), []byte("COIN1"))) {
			t.Fatalf("P7.1: Seal(%d): %v %d", kind, b, e)
		}
		checkOpen(t, b, opened{byte(kind), []byte("COIN1"), nil, api.OK})
	}
	for n := range 600 {
		data := patterns(n)[4]
		b, e := frame.Seal(9, data)
		if e != api.OK || !bytes.Equal(b, sealed(9, data)) {
			t.Fatalf("P7.1: Seal(9, %d bytes): %v %d", n, b, e)
		}
		checkOpen(t, b, opened{9, data, nil, api.OK})
	}
}

// P7.1: the examples of the chapter.
func TestSealExample(t *testing.T) {
	want := []byte{209, 3, 0, 0, 1, 7}
	sum := frame.Adler(want)
	want = append(want, byte(sum>>24), byte(sum>>16), byte(sum>>8), byte(sum))
	got, e := frame.Seal(3, []byte{7})
	if e != api.OK || !bytes.Equal(got, want) {
		t.Errorf("P7.1: Seal(3, [7]): %v %d, want %v", got, e, want)
	}
	// The sums are 1+209+3+0+0+1+7 = 221 and 210+213+213+213+214+221 = 1284.
	if !bytes.Equal(got[6:], []byte{1284 >> 8, 1284 & 0xFF, 0, 221}) {
		t.Errorf("P7.1: Seal(3, [7]) has the checksum %v", got[6:])
	}
	checkOpen(t, got, opened{3, []byte{7}, nil, api.OK})
}

// P7.1: data that are too long have no frame.
func TestSealFull(t *testing.T) {
	for _, n := range []int{8193, 8194, 10000, 16384, 65535, 65536, 65537, 65536 + 8192, 1 << 24, 1<<24 + 1, 1<<24 + 8192} {
		if b, e := frame.Seal(1, make([]byte, n)); e != api.ErrFull || len(b) != 0 {
			t.Errorf("P7.1: Seal of %d bytes: %d bytes %d", n, len(b), e)
		}
	}
}

// P7.1: Seal and Adler leave their argument as it is, and what Seal returns is
// memory of its own.
func TestSealMemory(t *testing.T) {
	for _, n := range []int{0, 1, 5, 100, 8192} {
		before := patterns(n)[4]
		data := roomy(before)
		b, _ := frame.Seal(4, data)
		frame.Adler(data)
		checkUnchanged(t, data, before)
		overwrite(data)
		if !bytes.Equal(b, sealed(4, before)) {
			t.Errorf("P7.1: a frame of %d bytes shares memory with its data", n)
		}
		other, _ := frame.Seal(4, before)
		overwrite(other)
		if again, _ := frame.Seal(4, before); !bytes.Equal(again, b) {
			t.Errorf("P7.1: frames of %d bytes share memory", n)
		}
	}
}
