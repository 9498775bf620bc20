package journal_test

import (
	"bytes"
	"math/rand"
	"slices"
	"testing"

	"coinage/api"
	"coinage/journal"
)

// P8.1: the examples of the chapter.
func TestExamples(t *testing.T) {
	j := journal.New()
	if e := j.Append(2, []byte{7}); e != api.OK {
		t.Fatalf("P8.1: Append(2, [7]): %d", e)
	}
	b := j.Bytes()
	// The checksum of D1 02 00 00 01 07 has the sums 220 and 1279.
	want := append([]byte("COIN1"), 0xD1, 2, 0, 0, 1, 7, 1279>>8, 1279&0xFF, 0, 220)
	if !bytes.Equal(b, want) {
		t.Errorf("P8.1: Bytes are %v, want %v", b, want)
	}
	check(t, "P8.1", j, []entry{{2, []byte{7}}})
	short, left, e := journal.Open(b[:14])
	if e != api.OK || left != 9 {
		t.Errorf("P8.3: Open of 14 bytes leaves %d with %d", left, e)
	}
	check(t, "P8.3", short, nil)
	if e := j.Cut(2); e != api.ErrNone {
		t.Errorf("P8.1: Cut(2): %d", e)
	}
	check(t, "P8.1", j, []entry{{2, []byte{7}}})
}

// P8.1: a new journal has no entries and the bytes of COIN1.
func TestNew(t *testing.T) {
	check(t, "P8.1", journal.New(), nil)
	first, second := journal.New(), journal.New()
	first.Append(1, nil)
	check(t, "P8.4", second, nil)
	if e := second.Cut(0); e != api.OK {
		t.Errorf("P8.1: Cut(0) of a new journal: %d", e)
	}
	check(t, "P8.1", second, nil)
}

// P8.1: the methods of nil.
func TestNil(t *testing.T) {
	var j *journal.Journal
	for _, data := range [][]byte{nil, {1}, make([]byte, 8193)} {
		if e := j.Append(1, data); e != api.ErrArg {
			t.Errorf("P8.1: Append of %d bytes to nil: %d", len(data), e)
		}
	}
	if n := j.Len(); n != 0 {
		t.Errorf("P8.1: Len of nil: %d", n)
	}
	for _, i := range []int{-1, 0, 1} {
		if kind, data, e := j.Entry(i); kind != 0 || len(data) != 0 || e != api.ErrArg {
			t.Errorf("P8.1: Entry(%d) of nil: %d %v %d", i, kind, data, e)
		}
		if e := j.Cut(i); e != api.ErrArg {
			t.Errorf("P8.1: Cut(%d) of nil: %d", i, e)
		}
	}
	if b := j.Bytes(); len(b) != 0 {
		t.Errorf("P8.1: Bytes of nil: %v", b)
	}
	if j.Clone() != nil {
		t.Errorf("P8.1: Clone of nil is not nil")
	}
}

// P8.1: every kind and data of many lengths are kept.
func TestKinds(t *testing.T) {
	var list []entry
	for kind := range 256 {
		list = append(list, entry{byte(kind), bytes.Repeat([]byte{byte(kind)}, kind%40)})
	}
	check(t, "P8.1", made(t, list), list)
	for size := 0; size <= 8192; size += 1 + size/3 {
		x := []entry{{0xD1, bytes.Repeat([]byte{0xD1}, size)}, {0, make([]byte, size)}}
		check(t, "P8.1", made(t, x), x)
	}
}

// P8.1: Append of the longest data, and of longer ones, which change nothing.
func TestAppendLongData(t *testing.T) {
	j, list := journal.New(), []entry(nil)
	for _, size := range []int{8191, 8192, 8193, 8194, 8192, 65535, 65536, 65537, 1 << 17, 1 << 24, 0} {
		x := entry{byte(size), make([]byte, size)}
		longer, e := appended(list, x)
		if got := j.Append(x.kind, x.data); got != e || (e == api.ErrFull) != (size > 8192) {
			t.Fatalf("P8.1: Append of %d bytes: %d, want %d", size, got, e)
		}
		list = longer
		check(t, "P8.1", j, list)
	}
}

// P8.1: a journal of 65536 bytes is accepted, and one more byte is not.
func TestAppendFull(t *testing.T) {
	for excess := -10; excess <= 10; excess++ {
		// 7 frames of 8201 bytes and the beginning leave 8124 bytes.
		list := make([]entry, 7)
		for i := range list {
			list[i] = entry{byte(i), bytes.Repeat([]byte{byte(i)}, 8192)}
		}
		j := made(t, list)
		last := entry{9, make([]byte, 8124-9+excess)}
		longer, e := appended(list, last)
		if (e == api.OK) != (excess <= 0) {
			t.Fatalf("P8.1: a journal of %d bytes: %d", 65536+excess, e)
		}
		if got := j.Append(last.kind, last.data); got != e {
			t.Fatalf("P8.1: Append up to %d bytes: %d, want %d", 65536+excess, got, e)
		}
		check(t, "P8.1", j, longer)
		smallest, e := appended(longer, entry{kind: 1})
		if got := j.Append(1, nil); got != e {
			t.Fatalf("P8.1: Append of nothing after %d bytes: %d, want %d", len(written(longer)), got, e)
		}
		check(t, "P8.1", j, smallest)
		checkOpen(t, "P8.2", j.Bytes())
	}
}

// P8.1: entries without data fill a journal, and after Cut there is room again.
func TestManyEntries(t *testing.T) {
	j, list := journal.New(), []entry(nil)
	for j.Append(byte(len(list)), nil) == api.OK {
		list = append(list, entry{kind: byte(len(list))})
	}
	if len(list) != (65536-5)/9 {
		t.Fatalf("P8.1: %d entries without data", len(list))
	}
	check(t, "P8.1", j, list)
	checkOpen(t, "P8.2", j.Bytes())
	if e := j.Cut(len(list) - 1); e != api.OK {
		t.Fatalf("P8.1: Cut: %d", e)
	}
	list = list[:len(list)-1]
	check(t, "P8.1", j, list)
	// 13 bytes are left: a frame of 14 is too long.
	for _, size := range []int{5, 4} {
		longer, e := appended(list, entry{1, make([]byte, size)})
		if got := j.Append(1, make([]byte, size)); got != e {
			t.Fatalf("P8.1: Append of %d bytes at the end: %d, want %d", size, got, e)
		}
		list = longer
		check(t, "P8.1", j, list)
	}
}

// P8.1: Cut keeps the first entries, and refuses every other number.
func TestCut(t *testing.T) {
	list := randomEntries(rand.New(rand.NewSource(1)), 9, 30)
	for count := range len(list) + 1 {
		for n := -3; n <= count+3; n++ {
			j := made(t, list[:count])
			e, kept := api.OK, list[:max(0, min(n, count))]
			if n < 0 || n > count {
				e, kept = api.ErrNone, list[:count]
			}
			if got := j.Cut(n); got != e {
				t.Fatalf("P8.1: Cut(%d) of %d: %d, want %d", n, count, got, e)
			}
			check(t, "P8.1", j, kept)
			if e := j.Append(5, []byte{6}); e != api.OK {
				t.Fatalf("P8.1: Append after Cut(%d): %d", n, e)
			}
			check(t, "P8.1", j, append(slices.Clone(kept), entry{5, []byte{6}}))
		}
	}
	for _, n := range []int{-1 << 63, 1<<63 - 1} {
		j := made(t, list)
		if e := j.Cut(n); e != api.ErrNone {
			t.Errorf("P8.1: Cut(%d): %d", n, e)
		}
		check(t, "P8.1", j, list)
	}
}

// P8.1, P8.4: a copy and what it was made of do not change one another.
func TestClone(t *testing.T) {
	source := rand.New(rand.NewSource(2))
	for range 200 {
		list := randomEntries(source, source.Intn(6), 20)
		j := made(t, list)
		copied := j.Clone()
		check(t, "P8.1", copied, list)
		mine, other := randomEntry(source, 20), randomEntry(source, 20)
		n, m := source.Intn(len(list)+1), source.Intn(len(list)+1)
		j.Cut(n)
		copied.Cut(m)
		j.Append(mine.kind, mine.data)
		copied.Append(other.kind, other.data)
		j.Append(other.kind, other.data)
		check(t, "P8.4", j, append(slices.Clone(list[:n]), mine, other))
		check(t, "P8.4", copied, append(slices.Clone(list[:m]), other))
	}
}

// P8.1: all sequences of five calls out of seven.
func TestAllShortSequences(t *testing.T) {
	const calls, length = 7, 5
	for code := range calls * calls * calls * calls * calls {
		j, list := journal.New(), []entry(nil)
		for rest, step := code, 0; step < length; rest, step = rest/calls, step+1 {
			switch call := rest % calls; call {
			case 0, 1, 2:
				x := entry{byte(step), bytes.Repeat([]byte{byte(code)}, call)}
				list = append(list, x)
				if e := j.Append(x.kind, x.data); e != api.OK {
					t.Fatalf("P8.1: Append: %d", e)
				}
			case 3, 4, 5:
				list = cutBoth(t, j, list, call-3)
			case 6:
				j = j.Clone()
			}
		}
		check(t, "P8.1", j, list)
	}
}

// cutBoth cuts a journal and its list of entries.
func cutBoth(t *testing.T, j *journal.Journal, list []entry, n int) []entry {
	t.Helper()
	e := j.Cut(n)
	if n > len(list) {
		if e != api.ErrNone {
			t.Fatalf("P8.1: Cut(%d) of %d: %d", n, len(list), e)
		}
		return list
	}
	if e != api.OK {
		t.Fatalf("P8.1: Cut(%d) of %d: %d", n, len(list), e)
	}
	return slices.Clone(list[:n])
}

// P8.1: long random sequences of calls on several journals, up to the limits.
func TestRandomSequences(t *testing.T) {
	for seed := range int64(6) {
		source := rand.New(rand.NewSource(seed))
		journals, lists := []*journal.Journal{journal.New()}, [][]entry{nil}
		for range 400 {
			i := source.Intn(len(journals))
			switch source.Intn(8) {
			case 0:
				lists[i] = cutBoth(t, journals[i], lists[i], source.Intn(len(lists[i])+2))
			case 1:
				journals, lists = append(journals, journals[i].Clone()), append(lists, slices.Clone(lists[i]))
			case 2:
				j, left, e := journal.Open(journals[i].Bytes())
				if e != api.OK || left != 0 {
					t.Fatalf("P8.2: Open of Bytes leaves %d with %d", left, e)
				}
				journals[i] = j
			default:
				x := randomEntry(source, 8200)
				longer, e := appended(lists[i], x)
				if got := journals[i].Append(x.kind, x.data); got != e {
					t.Fatalf("P8.1: Append of %d bytes: %d, want %d", len(x.data), got, e)
				}
				lists[i] = longer
			}
			if len(journals) > 4 {
				journals, lists = journals[1:], lists[1:]
			}
		}
		for i, j := range journals {
			check(t, "P8.1", j, lists[i])
		}
	}
}

// P8.4: bytes that were returned or given can be changed afterwards.
func TestMemory(t *testing.T) {
	source := rand.New(rand.NewSource(3))
	for range 100 {
		list := randomEntries(source, 1+source.Intn(5), 20)
		j := journal.New()
		for _, x := range list {
			data := bytes.Clone(x.data)
			j.Append(x.kind, data)
			fill(data)
		}
		check(t, "P8.4", j, list)
		fill(j.Bytes())
		for i := range list {
			_, data, _ := j.Entry(i)
			fill(data)
		}
		check(t, "P8.4", j, list)
		b := written(list)
		read, _, _ := journal.Open(b)
		fill(b)
		check(t, "P8.4", read, list)
	}
}

// fill overwrites bytes and the unused capacity after them.
func fill(b []byte) {
	b = b[:cap(b)]
	for i := range b {
		b[i] = 0xEE
	}
}

// P8.4: what a journal does later does not change bytes that it returned.
func TestReturnedBytesStay(t *testing.T) {
	list := randomEntries(rand.New(rand.NewSource(4)), 6, 20)
	j := made(t, list)
	before := j.Bytes()
	_, data, _ := j.Entry(5)
	j.Cut(1)
	for range 5 {
		j.Append(0xAA, bytes.Repeat([]byte{0xAA}, 25))
	}
	if !bytes.Equal(before, written(list)) || !bytes.Equal(data, list[5].data) {
		t.Errorf("P8.4: returned bytes changed")
	}
	// Append to returned bytes must not write into the journal.
	_ = append(j.Bytes(), 1, 2, 3)
	check(t, "P8.4", j, append(slices.Clone(list[:1]), slices.Repeat([]entry{{0xAA, bytes.Repeat([]byte{0xAA}, 25)}}, 5)...))
}

// P8.4: no function changes its arguments or the capacity after them.
func TestArgumentsStay(t *testing.T) {
	list := randomEntries(rand.New(rand.NewSource(5)), 4, 20)
	b := append(written(list), bytes.Repeat([]byte{0x55}, 40)...)
	whole := bytes.Clone(b)
	j, _, _ := journal.Open(b[:len(b)-40])
	j.Append(1, b[5:9])
	j.Cut(2)
	j.Append(2, b[:3])
	j.Append(3, b[7:11])
	if !bytes.Equal(b, whole) {
		t.Errorf("P8.4: an argument changed")
	}
	check(t, "P8.4", j, append(slices.Clone(list[:2]), entry{2, whole[:3]}, entry{3, whole[7:11]}))
}
