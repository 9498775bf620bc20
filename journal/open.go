package journal

import (
	"bytes"

	"coinage/api"
	"coinage/frame"
)

// maxFrame is the most bytes of a frame: those of the longest data, and 9.
const maxFrame = 8192 + 9

// Open returns the journal of the frames at the beginning of b that can be
// read, and how many bytes are left after them.
func Open(b []byte) (*Journal, int, Errno) {
	if len(b) > maxBytes {
		return nil, 0, api.ErrFull
	}
	if len(b) < len(beginning) {
		return nil, 0, api.ErrShort
	}
	if !bytes.HasPrefix(b, []byte(beginning)) {
		return nil, 0, api.ErrForm
	}
	j := New()
	left := b[len(beginning):]
	for size := frameSize(left); size > 0; size = frameSize(left) {
		j.add(left[:size])
		left = left[size:]
	}
	return j, len(left), api.OK
}

// frameSize returns the number of bytes of the frame at the beginning of b, and
// 0 if none can be read. It does not show frame.Open more than a frame can
// have, as that copies all that comes after the frame.
func frameSize(b []byte) int {
	window := b[:min(len(b), maxFrame)]
	_, _, rest, e := frame.Open(window)
	if e != api.OK {
		return 0
	}
	return len(window) - len(rest)
}
