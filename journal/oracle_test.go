package journal_test

import (
	"bytes"
	"encoding/binary"
	"hash/adler32"
	"math/rand"
	"slices"
	"testing"

	"coinage/api"
	"coinage/journal"
)

// entry is an entry of a journal.
type entry struct {
	kind byte
	data []byte
}

// sealed is the frame of an entry.
func sealed(x entry) []byte {
	b := []byte{0xD1, x.kind, byte(len(x.data) >> 16), byte(len(x.data) >> 8), byte(len(x.data))}
	b = append(b, x.data...)
	return binary.BigEndian.AppendUint32(b, adler32.Checksum(b))
}

// written is the bytes of the journal of a list of entries.
func written(list []entry) []byte {
	b := []byte{'C', 'O', 'I', 'N', '1'}
	for _, x := range list {
		b = append(b, sealed(x)...)
	}
	return b
}

// appended is what Append is to make of a list, with its error.
func appended(list []entry, x entry) ([]entry, api.Errno) {
	longer := append(slices.Clone(list), entry{x.kind, bytes.Clone(x.data)})
	if len(x.data) > 8192 || len(written(longer)) > 65536 {
		return list, api.ErrFull
	}
	return longer, api.OK
}

// opened is what Open is to read: the entries, the bytes that are left, and the
// error. It reads at each place whatever frame has the length that stands there.
func opened(b []byte) ([]entry, int, api.Errno) {
	if len(b) > 65536 {
		return nil, 0, api.ErrFull
	}
	if len(b) < 5 {
		return nil, 0, api.ErrShort
	}
	if string(b[:5]) != "COIN1" {
		return nil, 0, api.ErrForm
	}
	var list []entry
	at := 5
	for at+9 <= len(b) {
		size := int(b[at+2])<<16 | int(b[at+3])<<8 | int(b[at+4])
		if size > 8192 || at+9+size > len(b) {
			break
		}
		x := entry{b[at+1], b[at+5 : at+5+size]}
		if !bytes.Equal(sealed(x), b[at:at+9+size]) {
			break
		}
		list = append(list, x)
		at += 9 + size
	}
	return list, len(b) - at, api.OK
}

// check compares all that a journal tells of itself with a list of entries.
func check(t *testing.T, promise string, j *journal.Journal, list []entry) {
	t.Helper()
	if j == nil {
		t.Fatalf("%s: no journal, want one of %d entries", promise, len(list))
	}
	if j.Len() != len(list) {
		t.Fatalf("%s: Len is %d, want %d", promise, j.Len(), len(list))
	}
	for i, x := range list {
		if kind, data, e := j.Entry(i); e != api.OK || kind != x.kind || !bytes.Equal(data, x.data) {
			t.Fatalf("%s: Entry(%d) is %d %v with %d, want %d %v", promise, i, kind, data, e, x.kind, x.data)
		}
	}
	for _, i := range []int{-1 << 63, -2, -1, len(list), len(list) + 1, 1<<63 - 1} {
		if kind, data, e := j.Entry(i); e != api.ErrNone || kind != 0 || len(data) != 0 {
			t.Fatalf("%s: Entry(%d) of %d is %d %v with %d, want ErrNone", promise, i, len(list), kind, data, e)
		}
	}
	if got, want := j.Bytes(), written(list); !bytes.Equal(got, want) {
		t.Fatalf("%s: Bytes are %v, want %v", promise, got, want)
	}
}

// checkOpen compares Open of b with the entries that are in it.
func checkOpen(t *testing.T, promise string, b []byte) {
	t.Helper()
	list, left, e := opened(b)
	j, gotLeft, gotE := journal.Open(b)
	if gotE != e || gotLeft != left {
		t.Fatalf("%s: Open of %d bytes leaves %d with %d, want %d with %d", promise, len(b), gotLeft, gotE, left, e)
	}
	if e != api.OK {
		if j != nil {
			t.Fatalf("%s: Open of %d bytes returns a journal beside %d", promise, len(b), e)
		}
		return
	}
	check(t, promise, j, list)
}

// randomEntry is an entry with at most n bytes, often a few.
func randomEntry(source *rand.Rand, n int) entry {
	size := source.Intn(n + 1)
	if source.Intn(2) == 0 {
		size = source.Intn(min(n, 12) + 1)
	}
	data := make([]byte, size)
	source.Read(data)
	return entry{byte(source.Intn(256)), data}
}

// randomEntries lists entries with at most n bytes each.
func randomEntries(source *rand.Rand, count, n int) []entry {
	list := make([]entry, count)
	for i := range list {
		list[i] = randomEntry(source, n)
	}
	return list
}

// made is the journal to which a list of entries was appended.
func made(t *testing.T, list []entry) *journal.Journal {
	t.Helper()
	j := journal.New()
	for i, x := range list {
		if e := j.Append(x.kind, x.data); e != api.OK {
			t.Fatalf("P8.1: Append of entry %d, of %d bytes: %d", i, len(x.data), e)
		}
	}
	return j
}
