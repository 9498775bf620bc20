package frame_test

import (
	"bytes"
	"encoding/binary"
	"math/rand"
	"slices"
	"testing"

	"coinage/api"
)

// adler is the checksum, as the two sums of its definition.
func adler(b []byte) uint32 {
	low, high := uint64(1), uint64(0)
	for _, x := range b {
		low += uint64(x)
		if low >= 65521 {
			low -= 65521
		}
		high += low
		if high >= 65521 {
			high -= 65521
		}
	}
	return uint32(high*65536 + low)
}

// sealed is the frame of a kind and data of any length below 2^24.
func sealed(kind byte, data []byte) []byte {
	b := []byte{0xD1, kind, byte(len(data) >> 16), byte(len(data) >> 8), byte(len(data))}
	b = append(b, data...)
	return binary.BigEndian.AppendUint32(b, adler(b))
}

// opened is what Open is to return.
type opened struct {
	kind       byte
	data, rest []byte
	e          api.Errno
}

// open is Open, step by step in the order of its errors.
func open(b []byte) opened {
	if len(b) == 0 {
		return opened{e: api.ErrShort}
	}
	if b[0] != 0xD1 {
		return opened{e: api.ErrForm}
	}
	if len(b) < 5 {
		return opened{e: api.ErrShort}
	}
	length := int(b[2])*65536 + int(b[3])*256 + int(b[4])
	if length > 8192 {
		return opened{e: api.ErrFull}
	}
	if len(b) < length+9 {
		return opened{e: api.ErrShort}
	}
	if binary.BigEndian.Uint32(b[length+5:]) != adler(b[:length+5]) {
		return opened{e: api.ErrSum}
	}
	return opened{b[1], b[5 : length+5], b[length+9:], api.OK}
}

// patterns lists lists of n bytes: the same, ascending and random ones.
func patterns(n int) [][]byte {
	source := rand.New(rand.NewSource(int64(n)))
	ascending, random := make([]byte, n), make([]byte, n)
	source.Read(random)
	for i := range ascending {
		ascending[i] = byte(i)
	}
	return [][]byte{make([]byte, n), bytes.Repeat([]byte{0xFF}, n), bytes.Repeat([]byte{0xD1}, n), ascending, random}
}

// kinds are some of the kinds of frames.
var kinds = []byte{0, 1, 2, 3, 7, 0x7F, 0x80, 0xD1, 0xFF}

// tails are bytes that come after a frame or form, among them a frame.
var tails = [][]byte{nil, {0}, {0xD1}, {0xFF, 0xFF}, {0, 0, 0, 0, 0, 0, 0, 0}, {0xD1, 3, 0, 0, 1, 7, 5, 4, 0, 0xDD}, bytes.Repeat([]byte{0xD1}, 9000)}

// roomy copies b into memory of its own, with capacity behind it.
func roomy(b []byte) []byte {
	whole := append(slices.Clone(b), bytes.Repeat([]byte{0xAB}, 32)...)
	return whole[:len(b)]
}

// overwrite changes all bytes of some lists and the capacity behind them.
func overwrite(lists ...[]byte) {
	for _, b := range lists {
		b = b[:cap(b)]
		for i := range b {
			b[i] ^= 0x5A
		}
	}
}

// checkUnchanged asks that an argument that was made by roomy is what it was,
// with the capacity behind it.
func checkUnchanged(t *testing.T, argument, before []byte) {
	t.Helper()
	whole := argument[:len(argument)+32]
	if !bytes.Equal(argument, before) || !bytes.Equal(whole[len(argument):], bytes.Repeat([]byte{0xAB}, 32)) {
		t.Fatalf("P7.1: the argument %.40v became %.80v", before, whole)
	}
}

// checkTwo asks that of two lists of one result each has memory of its own.
func checkTwo(t *testing.T, a, b []byte) {
	t.Helper()
	before := slices.Clone(b)
	overwrite(a)
	if !bytes.Equal(b, before) {
		t.Fatalf("P7.1: %.40v and %.40v share memory", a, b)
	}
	before = slices.Clone(a)
	overwrite(b)
	if !bytes.Equal(a, before) {
		t.Fatalf("P7.1: %.40v and %.40v share memory", b, a)
	}
}
