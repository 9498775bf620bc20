package frame_test

import (
	"bytes"
	"math/rand"
	"slices"
	"testing"

	"coinage/api"
	"coinage/frame"
)

// P7.1: bytes that are no frame, with the error that is named first where
// several apply.
func TestOpenErrors(t *testing.T) {
	good := sealed(5, []byte("coin"))
	for _, c := range []struct {
		b    []byte
		want api.Errno
	}{
		{nil, api.ErrShort}, {[]byte{}, api.ErrShort}, {[]byte{0xD1}, api.ErrShort}, {[]byte{0xD1, 5, 0, 0}, api.ErrShort},
		// The wrong first byte goes before all but the empty list.
		{[]byte{0}, api.ErrForm}, {[]byte{0xD0}, api.ErrForm}, {[]byte{0xD2, 5}, api.ErrForm}, {[]byte{0x51, 5, 0, 0}, api.ErrForm}, {[]byte("COIN1"), api.ErrForm},
		{[]byte{0, 5, 0xFF, 0xFF, 0xFF}, api.ErrForm}, {append([]byte{0}, good...), api.ErrForm}, {good[1:], api.ErrForm}, {append([]byte{0x1D}, good[1:]...), api.ErrForm},
		// Fewer than 5 bytes have no length that could be too great.
		{[]byte{0xD1, 5, 0xFF}, api.ErrShort}, {[]byte{0xD1, 5, 0xFF, 0xFF}, api.ErrShort},
		// A length that is too great goes before bytes that are missing.
		{[]byte{0xD1, 5, 0, 0x20, 1}, api.ErrFull}, {[]byte{0xD1, 5, 1, 0, 0}, api.ErrFull}, {[]byte{0xD1, 5, 1, 0, 1, 9, 9, 9, 9, 9}, api.ErrFull},
		{[]byte{0xD1, 5, 0xFF, 0xFF, 0xFF}, api.ErrFull}, {[]byte{0xD1, 5, 0x80, 0, 0}, api.ErrFull}, {[]byte{0xD1, 5, 0, 0xFF, 0xFF}, api.ErrFull}, {[]byte{0xD1, 5, 0, 0x21, 0}, api.ErrFull},
		{[]byte{0xD1, 5, 0, 0x20, 0}, api.ErrShort}, {[]byte{0xD1, 5, 0, 0x1F, 0xFF}, api.ErrShort}, {[]byte{0xD1, 5, 0, 0, 0}, api.ErrShort}, {[]byte{0xD1, 5, 0, 0, 0, 0, 0, 0}, api.ErrShort},
		// Bytes that are missing go before the checksum.
		{[]byte{0xD1, 5, 0, 0, 1, 0, 0, 0, 0}, api.ErrShort}, {[]byte{0xD1, 5, 0, 0, 0, 0, 0, 0, 0}, api.ErrSum}, {[]byte{0xD1, 5, 0, 0, 1, 0, 0, 0, 0, 0}, api.ErrSum},
		{append(slices.Clone(good[:len(good)-1]), good[len(good)-1]+1), api.ErrSum}, {append(good[:len(good)-1:len(good)-1], 0, 0, 0, 0), api.ErrSum},
		// A frame of 8193 bytes is whole, but too long.
		{sealed(5, make([]byte, 8193)), api.ErrFull}, {sealed(5, make([]byte, 65536)), api.ErrFull}, {sealed(5, make([]byte, 8192))[:8200], api.ErrShort},
	} {
		checkOpen(t, c.b, opened{e: c.want})
	}
	// The highest byte of the checksum comes first.
	b := sealed(0, nil)
	slices.Reverse(b[5:])
	checkOpen(t, b, opened{e: api.ErrSum})
}

// P7.1, P7.2: Open of all short lists of some bytes.
func TestOpenShort(t *testing.T) {
	var longer func([]byte)
	longer = func(b []byte) {
		checkOpen(t, b, open(b))
		if len(b) < 6 {
			for _, x := range []byte{0, 1, 0x20, 0x21, 0xD1, 0xFF} {
				longer(append(slices.Clone(b), x))
			}
		}
	}
	longer(nil)
	// With all of these lengths, and checksums that match.
	for size := range 1 << 16 {
		b := []byte{0xD1, 2, 0, byte(size >> 8), byte(size)}
		checkOpen(t, b, open(b))
	}
	for high := range 256 {
		b := append([]byte{0xD1, 2, byte(high), 0, 0}, make([]byte, 20)...)
		checkOpen(t, b, open(b))
	}
}

// P7.1, P7.2: Open of random bytes and of frames that are changed, cut or
// followed by others; what is read consists of the frame and the rest.
func TestOpenRandom(t *testing.T) {
	source := rand.New(rand.NewSource(7))
	read := 0
	for range 30000 {
		data := make([]byte, source.Intn(40))
		source.Read(data)
		b := append(sealed(byte(source.Intn(256)), data), data...)
		for range source.Intn(3) {
			b[source.Intn(len(b))] ^= byte(1 << source.Intn(8))
		}
		b = b[:len(b)-source.Intn(2)*source.Intn(len(b))]
		checkOpen(t, b, open(b))
		kind, data, rest, e := frame.Open(b)
		if e != api.OK {
			continue
		}
		read++
		if again, e := frame.Seal(kind, data); e != api.OK || !bytes.Equal(slices.Concat(again, rest), b) {
			t.Fatalf("P7.2: Open of %v reads %d, %v and %v", b, kind, data, rest)
		}
	}
	if read < 1000 {
		t.Errorf("only %d frames were read", read)
	}
}

// P7.2: frames one after the other are read one after the other.
func TestOpenSequence(t *testing.T) {
	var all []byte
	for _, n := range lengths {
		b, _ := frame.Seal(byte(n), patterns(n)[4])
		all = append(all, b...)
	}
	for _, n := range lengths {
		kind, data, rest, e := frame.Open(all)
		if e != api.OK || kind != byte(n) || !bytes.Equal(data, patterns(n)[4]) {
			t.Fatalf("P7.2: the frame of %d bytes: %d, %d bytes, %d", n, kind, len(data), e)
		}
		all = rest
	}
	if len(all) > 0 {
		t.Errorf("P7.2: %d bytes are left", len(all))
	}
}

// P7.3: a beginning of a frame that is not the whole frame ends too early.
func TestOpenBeginning(t *testing.T) {
	for _, n := range lengths {
		for _, data := range patterns(n) {
			b, _ := frame.Seal(0xD1, data)
			for end := range b {
				// Behind the beginning the frame goes on in the unused capacity.
				if kind, data, rest, e := frame.Open(b[:end]); e != api.ErrShort || kind != 0 || len(data) != 0 || len(rest) != 0 {
					t.Fatalf("P7.3: Open of %d of %d bytes: %d %v %v %d", end, len(b), kind, data, rest, e)
				}
			}
			checkOpen(t, b, opened{0xD1, data, nil, api.OK})
		}
	}
}

// checkChange asks Open to refuse a frame, with bytes after it, in which the
// byte at a place that is not one of the length is changed.
func checkChange(t *testing.T, b []byte, place int, flip byte) {
	t.Helper()
	want := api.ErrSum
	if place == 0 {
		want = api.ErrForm
	}
	b[place] ^= flip
	if kind, data, rest, e := frame.Open(b); e != want || kind != 0 || len(data) != 0 || len(rest) != 0 {
		t.Fatalf("P7.4: with the byte %d of %d changed to %d: %d %.20v %d", place, len(b), b[place], kind, data, e)
	}
	b[place] ^= flip
}

// P7.4: one changed byte of a frame is found, whatever it is changed to.
func TestOpenChanged(t *testing.T) {
	for _, n := range lengths {
		for _, data := range patterns(n) {
			b := append(sealed(3, data), 1, 2, 3)
			for place := range len(b) - 3 {
				if 2 <= place && place < 5 {
					continue
				}
				if n > 300 {
					if place%37 < 2 || place < 10 || place > n {
						checkChange(t, b, place, byte(1+place%255))
					}
					continue
				}
				for flip := 1; flip < 256; flip++ {
					checkChange(t, b, place, byte(flip))
				}
			}
		}
	}
}

// P7.1: a changed byte of the length has the errors of the chapter.
func TestOpenLength(t *testing.T) {
	for _, n := range lengths {
		b := append(sealed(3, patterns(n)[4]), 1, 2, 3)
		for place := 2; place < 5; place++ {
			for flip := 1; flip < 256; flip++ {
				b[place] ^= byte(flip)
				checkOpen(t, b, open(b))
				b[place] ^= byte(flip)
			}
		}
	}
}

// P7.1: Open leaves its argument as it is, and what it returns is memory of its
// own.
func TestOpenMemory(t *testing.T) {
	for _, n := range []int{0, 1, 5, 100, 8192} {
		for _, tail := range tails {
			data := patterns(n)[4]
			before := slices.Concat(sealed(4, data), tail)
			b := roomy(before)
			_, x, y, _ := frame.Open(b)
			checkUnchanged(t, b, before)
			overwrite(b)
			if !bytes.Equal(x, data) || !bytes.Equal(y, tail) {
				t.Fatalf("P7.1: what is read of %d bytes shares memory with them", len(b))
			}
			checkTwo(t, x, y)
			checkOpen(t, before, opened{4, data, tail, api.OK})
		}
	}
}
