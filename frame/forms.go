package frame

import (
	"bytes"

	"coinage/api"
)

// The widths of the forms of an integer and of the length of a string, and the
// most bytes of a string.
const (
	intWidth    = 8
	lengthWidth = 2
	maxString   = 4096
)

// Int returns the form of n.
func Int(n int) []byte { return digits(uint64(n), intWidth) }

// ReadInt reads the form of an integer from the beginning of b, and returns the
// integer and the bytes after it; ErrShort if b has not all of it.
func ReadInt(b []byte) (int, []byte, Errno) {
	if len(b) < intWidth {
		return 0, nil, api.ErrShort
	}
	return int(number(b[:intWidth])), bytes.Clone(b[intWidth:]), api.OK
}

// Bytes returns the form of the string s; ErrFull if it is too long.
func Bytes(s []byte) ([]byte, Errno) {
	if len(s) > maxString {
		return nil, api.ErrFull
	}
	return append(digits(uint64(len(s)), lengthWidth), s...), api.OK
}

// ReadBytes reads the form of a string from the beginning of b, and returns the
// string and the bytes after it.
func ReadBytes(b []byte) ([]byte, []byte, Errno) {
	if len(b) < lengthWidth {
		return nil, nil, api.ErrShort
	}
	length := number(b[:lengthWidth])
	if length > maxString {
		return nil, nil, api.ErrFull
	}
	end := lengthWidth + int(length)
	if len(b) < end {
		return nil, nil, api.ErrShort
	}
	return bytes.Clone(b[lengthWidth:end]), bytes.Clone(b[end:]), api.OK
}

// digits returns the lowest bytes of n, as many as width, the highest first.
func digits(n uint64, width int) []byte {
	b := make([]byte, width)
	for i := range b {
		b[i] = byte(n >> (8 * (width - 1 - i)))
	}
	return b
}

// number returns the number of which b has the bytes, the highest first.
func number(b []byte) uint64 {
	n := uint64(0)
	for _, x := range b {
		n = n<<8 | uint64(x)
	}
	return n
}
