package frame_test

import (
	"bytes"
	"encoding/binary"
	"math"
	"math/rand"
	"slices"
	"testing"

	"coinage/api"
	"coinage/frame"
)

// integers lists integers of all sizes.
func integers() []int {
	list := []int{0, 1, -1, 2, -2, 255, 256, -255, -256, -257, 999, 9999, -9999, 1e9, -1e9, math.MaxInt, math.MinInt, math.MaxInt - 1, math.MinInt + 1}
	for shift := range 64 {
		for d := -2; d <= 2; d++ {
			list = append(list, 1<<shift+d, -1<<shift+d)
		}
	}
	source := rand.New(rand.NewSource(7))
	for range 10000 {
		list = append(list, int(source.Uint64())>>source.Intn(64))
	}
	for n := -1000; n <= 1000; n++ {
		list = append(list, n)
	}
	return list
}

// P7.1, P7.2: integers have their bytes in two's complement, and are read back,
// with any bytes after them.
func TestInt(t *testing.T) {
	for _, n := range integers() {
		want := binary.BigEndian.AppendUint64(nil, uint64(int64(n)))
		got := frame.Int(n)
		if !bytes.Equal(got, want) {
			t.Fatalf("P7.1: Int(%d) = %v, want %v", n, got, want)
		}
		for _, tail := range tails[:6] {
			if back, rest, e := frame.ReadInt(slices.Concat(got, tail)); e != api.OK || back != n || !bytes.Equal(rest, tail) {
				t.Fatalf("P7.2: ReadInt of %v and %v: %d %v %d", got, tail, back, rest, e)
			}
		}
	}
	for n, want := range map[int][]byte{
		-2:                 {255, 255, 255, 255, 255, 255, 255, 254},
		-1:                 {255, 255, 255, 255, 255, 255, 255, 255},
		0:                  {0, 0, 0, 0, 0, 0, 0, 0},
		258:                {0, 0, 0, 0, 0, 0, 1, 2},
		0x0102030405060708: {1, 2, 3, 4, 5, 6, 7, 8},
		math.MaxInt64:      {127, 255, 255, 255, 255, 255, 255, 255},
		math.MinInt64:      {128, 0, 0, 0, 0, 0, 0, 0},
	} {
		if got := frame.Int(n); !bytes.Equal(got, want) {
			t.Errorf("P7.1: Int(%d) = %v, want %v", n, got, want)
		}
	}
}

// P7.1, P7.2: any 8 bytes are the form of an integer.
func TestReadInt(t *testing.T) {
	source := rand.New(rand.NewSource(8))
	for range 10000 {
		b := make([]byte, 8+source.Intn(20))
		source.Read(b)
		n, rest, e := frame.ReadInt(b)
		if e != api.OK || n != int(binary.BigEndian.Uint64(b)) || !bytes.Equal(rest, b[8:]) {
			t.Fatalf("P7.1: ReadInt(%v): %d %v %d", b, n, rest, e)
		}
		if !bytes.Equal(slices.Concat(frame.Int(n), rest), b) {
			t.Fatalf("P7.2: ReadInt of %v reads %d and %v", b, n, rest)
		}
	}
}

// P7.1: fewer than 8 bytes are no integer.
func TestReadIntShort(t *testing.T) {
	for _, n := range []int{0, 1, -1, math.MaxInt, math.MinInt} {
		for end := range 8 {
			if n, rest, e := frame.ReadInt(frame.Int(n)[:end]); e != api.ErrShort || n != 0 || len(rest) != 0 {
				t.Errorf("P7.1: ReadInt of %d bytes: %d %v %d", end, n, rest, e)
			}
		}
	}
	if n, rest, e := frame.ReadInt(nil); e != api.ErrShort || n != 0 || len(rest) != 0 {
		t.Errorf("P7.1: ReadInt of nil: %d %v %d", n, rest, e)
	}
}

// checkBytes compares ReadBytes with what it is to return.
func checkBytes(t *testing.T, b, want, tail []byte, f api.Errno) {
	t.Helper()
	if s, rest, e := frame.ReadBytes(b); e != f || !bytes.Equal(s, want) || !bytes.Equal(rest, tail) {
		t.Fatalf("P7.1: ReadBytes of %d bytes %.20v: %d bytes %.20v, %d bytes, %d; want %d bytes, %d bytes, %d",
			len(b), b, len(s), s, len(rest), e, len(want), len(tail), f)
	}
}

// P7.1, P7.2: strings of all lengths have their form, and are read back, with
// any bytes after them; a beginning of it is too short.
func TestBytes(t *testing.T) {
	for n := range 4097 {
		// Short strings, those around the limits, and some between.
		if n > 300 && n%211 > 0 && n < 4090 {
			continue
		}
		for _, s := range patterns(n) {
			b, e := frame.Bytes(s)
			if e != api.OK || !bytes.Equal(b, append([]byte{byte(n >> 8), byte(n)}, s...)) {
				t.Fatalf("P7.1: Bytes of %d bytes: %.20v %d", n, b, e)
			}
			for _, tail := range tails {
				checkBytes(t, slices.Concat(b, tail), s, tail, api.OK)
			}
		}
		b, _ := frame.Bytes(patterns(n)[4])
		for end := range b {
			checkBytes(t, b[:end], nil, nil, api.ErrShort)
		}
	}
	if b, e := frame.Bytes([]byte{8, 9}); e != api.OK || !bytes.Equal(b, []byte{0, 2, 8, 9}) {
		t.Errorf("P7.1: Bytes([8, 9]): %v %d", b, e)
	}
	if b, e := frame.Bytes(nil); e != api.OK || !bytes.Equal(b, []byte{0, 0}) {
		t.Errorf("P7.1: Bytes of nil: %v %d", b, e)
	}
}

// P7.1: strings that are too long have no form.
func TestBytesFull(t *testing.T) {
	for _, n := range []int{4097, 4098, 5000, 8192, 65535, 65536, 65537, 65536 + 4096, 1 << 20} {
		if b, e := frame.Bytes(make([]byte, n)); e != api.ErrFull || len(b) != 0 {
			t.Errorf("P7.1: Bytes of %d bytes: %d bytes %d", n, len(b), e)
		}
	}
}

// P7.1: bytes that are no form of a string, with the error that is named first
// where several apply.
func TestReadBytesErrors(t *testing.T) {
	for _, c := range []struct {
		b    []byte
		want api.Errno
	}{
		{nil, api.ErrShort}, {[]byte{0}, api.ErrShort}, {[]byte{0xFF}, api.ErrShort}, {[]byte{0x10}, api.ErrShort}, {[]byte{0, 1}, api.ErrShort}, {[]byte{0, 2, 7}, api.ErrShort},
		{[]byte{0x10, 0}, api.ErrShort}, {append([]byte{0x10, 0}, make([]byte, 4095)...), api.ErrShort}, {[]byte{0x0F, 0xFF}, api.ErrShort}, {[]byte{1, 0, 7}, api.ErrShort},
		// A length that is too great goes before bytes that are missing.
		{[]byte{0x10, 1}, api.ErrFull}, {[]byte{0x10, 1, 7}, api.ErrFull}, {[]byte{0x11, 0}, api.ErrFull}, {[]byte{0xFF, 0xFF}, api.ErrFull}, {[]byte{0x80, 0}, api.ErrFull},
		{append([]byte{0x10, 1}, make([]byte, 4097)...), api.ErrFull}, {append([]byte{0xFF, 0xFF}, make([]byte, 70000)...), api.ErrFull},
	} {
		checkBytes(t, c.b, nil, nil, c.want)
	}
	checkBytes(t, []byte{0, 1, 5, 6}, []byte{5}, []byte{6}, api.OK)
	checkBytes(t, []byte{0, 0}, nil, nil, api.OK)
	checkBytes(t, []byte{0, 0, 5}, nil, []byte{5}, api.OK)
	checkBytes(t, append([]byte{0x10, 0}, make([]byte, 4096)...), make([]byte, 4096), nil, api.OK)
}

// P7.1, P7.2: all lengths before the same bytes; what is read consists of the
// form and the rest.
func TestReadBytesAll(t *testing.T) {
	random := patterns(100)[4]
	for n := range 1 << 16 {
		b := append([]byte{byte(n >> 8), byte(n)}, random...)
		switch {
		case n > 4096:
			checkBytes(t, b, nil, nil, api.ErrFull)
		case n > 100:
			checkBytes(t, b, nil, nil, api.ErrShort)
		default:
			s, rest, e := frame.ReadBytes(b)
			form, _ := frame.Bytes(s)
			if e != api.OK || len(s) != n || !bytes.Equal(slices.Concat(form, rest), b) {
				t.Fatalf("P7.2: ReadBytes of %.20v: %v %v %d", b, s, rest, e)
			}
		}
	}
}

// P7.1: the functions of forms leave their arguments as they are, and what they
// return is memory of its own.
func TestFormsMemory(t *testing.T) {
	for _, n := range []int{0, 1, 5, 100, 4096} {
		for _, tail := range tails {
			before := patterns(n)[4]
			s := roomy(before)
			form, _ := frame.Bytes(s)
			checkUnchanged(t, s, before)
			overwrite(s)
			if !bytes.Equal(form[2:], before) {
				t.Fatalf("P7.1: the form of %d bytes shares memory with them", n)
			}
			b := roomy(slices.Concat(form, tail))
			x, y, _ := frame.ReadBytes(b)
			checkUnchanged(t, b, slices.Concat(form, tail))
			overwrite(b)
			if !bytes.Equal(x, before) || !bytes.Equal(y, tail) {
				t.Fatalf("P7.1: what is read of %d bytes shares memory with them", len(b))
			}
			checkTwo(t, x, y)
		}
	}
	for _, tail := range tails {
		b := roomy(slices.Concat(frame.Int(-77), tail))
		_, rest, _ := frame.ReadInt(b)
		checkUnchanged(t, b, slices.Concat(frame.Int(-77), tail))
		overwrite(b)
		if !bytes.Equal(rest, tail) {
			t.Fatal("P7.1: the rest after an integer shares memory with the argument")
		}
	}
	one := frame.Int(5)
	overwrite(one)
	if two := frame.Int(5); !bytes.Equal(two, []byte{0, 0, 0, 0, 0, 0, 0, 5}) {
		t.Errorf("P7.1: Int(5) = %v", two)
	}
}
