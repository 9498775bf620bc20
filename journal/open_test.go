package journal_test

import (
	"bytes"
	"math/rand"
	"slices"
	"testing"

	"coinage/api"
	"coinage/journal"
)

// P8.2: Open of the Bytes reads the same entries, and leaves nothing.
func TestOpenBytes(t *testing.T) {
	source := rand.New(rand.NewSource(11))
	for i := range 300 {
		list := randomEntries(source, source.Intn(8), 1+i)
		b := made(t, list).Bytes()
		j, left, e := journal.Open(b)
		if e != api.OK || left != 0 {
			t.Fatalf("P8.2: Open of Bytes leaves %d with %d", left, e)
		}
		check(t, "P8.2", j, list)
		x := randomEntry(source, 30)
		if e := j.Append(x.kind, x.data); e != api.OK {
			t.Fatalf("P8.1: Append after Open: %d", e)
		}
		check(t, "P8.1", j, append(slices.Clone(list), x))
	}
}

// P8.3: Open of every beginning reads the entries whose frames are complete.
func TestOpenBeginnings(t *testing.T) {
	source := rand.New(rand.NewSource(12))
	for range 60 {
		list := randomEntries(source, source.Intn(6), 40)
		b := made(t, list).Bytes()
		for n := 5; n <= len(b); n++ {
			complete, end := 0, 5
			for complete < len(list) && end+9+len(list[complete].data) <= n {
				end += 9 + len(list[complete].data)
				complete++
			}
			j, left, e := journal.Open(b[:n])
			if e != api.OK || left != n-end {
				t.Fatalf("P8.3: Open of %d of %d bytes leaves %d with %d, want %d", n, len(b), left, e, n-end)
			}
			check(t, "P8.3", j, list[:complete])
		}
	}
}

// P8.3: a journal of many bytes is cut where a long frame begins or ends.
func TestOpenLongBeginnings(t *testing.T) {
	list := []entry{{1, bytes.Repeat([]byte{1}, 8192)}, {2, nil}, {3, bytes.Repeat([]byte{0xD1}, 8192)}, {4, []byte{4}}}
	b := made(t, list).Bytes()
	for _, end := range []int{5, 14, 5 + 8201, 5 + 8210, 5 + 2*8201, 5 + 2*8201 + 9, len(b)} {
		for n := max(5, end-12); n <= min(len(b), end+12); n++ {
			checkOpen(t, "P8.3", b[:n])
		}
	}
}

// P8.1: Open of fewer than five bytes, whatever they are.
func TestOpenShort(t *testing.T) {
	for _, text := range []string{"COIN1", "COIN2", "coin1", "\xD1\x00\x00\x00\x00", "\x00\x00\x00\x00\x00"} {
		for n := range 5 {
			if j, left, e := journal.Open([]byte(text[:n])); j != nil || left != 0 || e != api.ErrShort {
				t.Errorf("P8.1: Open(%q): %v %d %d", text[:n], j, left, e)
			}
		}
	}
	if j, left, e := journal.Open(nil); j != nil || left != 0 || e != api.ErrShort {
		t.Errorf("P8.1: Open(nil): %v %d %d", j, left, e)
	}
}

// P8.1: Open of bytes with every other beginning.
func TestOpenForm(t *testing.T) {
	b := written([]entry{{1, []byte{2, 3}}})
	for at := range 5 {
		for x := range 256 {
			changed := bytes.Clone(b)
			changed[at] = byte(x)
			checkOpen(t, "P8.1", changed)
			checkOpen(t, "P8.1", changed[:5])
		}
	}
	for _, text := range []string{"coin1", "COIN0", " COIN1", "1NIOC", "COIN\x01", "\x00\x00\x00\x00\x00"} {
		if j, left, e := journal.Open([]byte(text)); j != nil || left != 0 || e != api.ErrForm {
			t.Errorf("P8.1: Open(%q): %v %d %d", text, j, left, e)
		}
	}
}

// P8.1: Open of the most bytes, and of more, whatever they are.
func TestOpenFull(t *testing.T) {
	for _, n := range []int{65535, 65536, 65537, 65538, 1 << 17} {
		for _, head := range []string{"COIN1", "COIN2"} {
			b := append([]byte(head), make([]byte, n-5)...)
			want := api.OK
			if head != "COIN1" {
				want = api.ErrForm
			}
			if n > 65536 {
				want = api.ErrFull
			}
			if _, _, e := journal.Open(b); e != want {
				t.Errorf("P8.1: Open of %s and %d bytes: %d, want %d", head, n, e, want)
			}
			checkOpen(t, "P8.1", b)
		}
	}
	// A journal that could be read but for the bytes that are too many.
	var list []entry
	for range 8 {
		list = append(list, entry{1, make([]byte, 8192)})
	}
	checkOpen(t, "P8.1", written(list))
}

// P8.1, P8.3: a single changed byte ends what is read at the frame it is in.
func TestOpenChanged(t *testing.T) {
	list := []entry{{1, []byte{7, 8, 9}}, {2, nil}, {0xD1, bytes.Repeat([]byte{0xD1}, 9)}, {3, []byte{0}}}
	b := written(list)
	for at := 5; at < len(b); at++ {
		for x := range 256 {
			changed := bytes.Clone(b)
			changed[at] = byte(x)
			checkOpen(t, "P8.1", changed)
		}
	}
}

// P8.1: Open of frames with bytes before, between and after them.
func TestOpenOtherBytes(t *testing.T) {
	first, second := sealed(entry{1, []byte{5}}), sealed(entry{2, []byte{6, 7}})
	tails := [][]byte{nil, {0}, {0xD1}, {0xD1, 1}, {0xD1, 1, 0, 0, 0}, {0xD1, 1, 0, 32, 1, 0, 0, 0, 0}, []byte("COIN1"), bytes.Repeat([]byte{0xD1}, 20), bytes.Repeat([]byte{0xFF}, 20)}
	for _, x := range tails {
		for _, y := range tails {
			for _, z := range tails {
				checkOpen(t, "P8.1", slices.Concat([]byte("COIN1"), x, first, y, second, z))
			}
		}
	}
}

// P8.1: a frame of more than 8192 bytes is not read, whatever its checksum is.
func TestOpenLongFrame(t *testing.T) {
	for _, size := range []int{8192, 8193, 8194, 16384, 60000} {
		before := []entry{{1, []byte{1}}}
		b := slices.Concat(written(before), sealed(entry{2, make([]byte, size)}), sealed(entry{3, nil}))
		checkOpen(t, "P8.1", b)
		want := 1
		if size == 8192 {
			want = 3
		}
		if j, _, _ := journal.Open(b); j.Len() != want {
			t.Errorf("P8.1: Open reads %d entries around one of %d bytes", j.Len(), size)
		}
	}
}

// P8.1: Open of random bytes after the beginning.
func TestOpenRandom(t *testing.T) {
	source := rand.New(rand.NewSource(13))
	for range 3000 {
		b := []byte("COIN1")
		for range source.Intn(5) {
			if source.Intn(3) > 0 {
				b = append(b, sealed(randomEntry(source, 12))...)
				continue
			}
			noise := make([]byte, source.Intn(12))
			source.Read(noise)
			b = append(b, noise...)
		}
		checkOpen(t, "P8.1", b)
	}
}
