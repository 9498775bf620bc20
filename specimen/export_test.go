package specimen_test

import (
	"math/rand"
	"slices"
	"strings"
	"testing"

	"coinage/api"
	"coinage/specimen"
)

// checkNoImport asks Import to refuse a text.
func checkNoImport(t *testing.T, s string, want api.Errno) {
	t.Helper()
	if l, e := specimen.Import(s); e != want || len(l) != 0 {
		t.Fatalf("P9.1: Import of %d bytes, %.80q: %v %d, want %d", len(s), s, l, e, want)
	}
}

// imported compares Import of any text: only a list by Id whose lines, each
// ended by a line feed, are texts of specimens has it.
func imported(t *testing.T, s string) {
	t.Helper()
	if len(s) > 4096 {
		checkNoImport(t, s, api.ErrFull)
		return
	}
	lines := strings.Split(s, "\n")
	var list []api.Specimen
	for _, line := range lines[:len(lines)-1] {
		x, _ := parsed(line)
		list = append(list, x)
	}
	ascending := slices.IsSortedFunc(list, func(a, b api.Specimen) int { return a.Id - b.Id })
	if lines[len(lines)-1] != "" || checked(list) != api.OK || !ascending {
		checkNoImport(t, s, api.ErrForm)
		return
	}
	if got, e := specimen.Import(s); e != api.OK || !slices.Equal(got, list) {
		t.Fatalf("P9.2: Import(%q): %v %d", s, got, e)
	}
}

// P9.1, P9.2: exports of the shortest lists.
func TestExportCases(t *testing.T) {
	other := of(4, 5, 6, 1, 1, 0, 7)
	for want, l := range map[string][]api.Specimen{
		"":                        nil,
		"17 O3b/R12a 6h 16.820\n": {example},
		"4 O5a/R6a 12h 0.007\n17 O3b/R12a 6h 16.820\n": {example, other},
	} {
		if text, e := specimen.Export(l); e != api.OK || text != want {
			t.Errorf("P9.1: Export(%v): %q %d, want %q", l, text, e, want)
		}
		if back, e := specimen.Import(want); e != api.OK || !slices.Equal(back, sorted(l)) {
			t.Errorf("P9.2: Import(%q): %v %d", want, back, e)
		}
	}
	if text, e := specimen.Export([]api.Specimen{}); e != api.OK || text != "" {
		t.Errorf("P9.1: Export of an empty list: %q %d", text, e)
	}
}

// P9.2: lists of all lengths are read back from their exports, by Id.
func TestImport(t *testing.T) {
	source := rand.New(rand.NewSource(1))
	for n := range 65 {
		for range 50 {
			l := randomList(source, n)
			text, e := specimen.Export(l)
			if e != api.OK || text != exported(l) {
				t.Fatalf("P9.1: Export(%v): %q %d", l, text, e)
			}
			if back, e := specimen.Import(text); e != api.OK || !slices.Equal(back, sorted(l)) {
				t.Fatalf("P9.2: Import(%q): %v %d", text, back, e)
			}
		}
	}
}

// P9.2: the longest export of all.
func TestImportLongest(t *testing.T) {
	var l []api.Specimen
	for i := range 64 {
		l = append(l, of(9999-i, 999, 999, 9, 9, 0, 200000-i))
	}
	if back, e := specimen.Import(exported(l)); e != api.OK || !slices.Equal(back, sorted(l)) {
		t.Errorf("P9.2: Import of %d bytes: %v %d", len(exported(l)), back, e)
	}
}

// P9.1: texts that are not the export of any list.
func TestImportForm(t *testing.T) {
	a, b, c := textOf(few[2]), textOf(example), textOf(few[3])
	for _, s := range []string{
		"\n", "\n\n", a, a + "\n" + b, "\n" + a + "\n", a + "\n\n", a + "\n\n" + b + "\n", a + "\r\n", a + "\r", a + "\n\r", a + " \n", " " + a + "\n", a + "\n ",
		a + ";" + b + "\n", b + "\n" + a + "\n", a + "\n" + a + "\n",
		a + "\n" + c + "\n" + b + "\n", b + "\n" + textOf(few[1]) + "\n", c + "\n" + a + "\n", a + "\n" + b + "\n" + b + "\n",
		"17 O3/R12a 6h 16.820\n", "x\n", a + "\nx\n", "x\n" + a + "\n", a + "\n\x00", "\x00" + a + "\n", "\ufeff" + a + "\n", a + "\u2028" + b + "\n", a + "\v", " ", "\r\n",
	} {
		checkNoImport(t, s, api.ErrForm)
		imported(t, s)
	}
}

// P9.1: texts of more than 64 lines are refused, and those of more than 4096
// bytes have another error, whatever they are.
func TestImportFull(t *testing.T) {
	var text string
	for id := 1; len(text) <= 4096; id++ {
		imported(t, text)
		text += textOf(of(id, 1, 1, 1, 1, 1, 1)) + "\n"
		if id == 64 {
			if l, e := specimen.Import(text); e != api.OK || len(l) != 64 {
				t.Errorf("P9.2: Import of 64 lines: %v %d", l, e)
			}
		}
		if id == 65 {
			checkNoImport(t, text, api.ErrForm)
		}
	}
	checkNoImport(t, text, api.ErrFull)
	for _, s := range []string{"\n", " ", "x", "1", textOf(example) + "\n", "\x00"} {
		for _, size := range []int{4095, 4096, 4097, 5000, 1 << 20} {
			want := api.ErrForm
			if size > 4096 {
				want = api.ErrFull
			}
			checkNoImport(t, strings.Repeat(s, size)[:size], want)
		}
	}
}

// P9.1, P9.2: all texts that differ at one place from an export.
func TestImportNear(t *testing.T) {
	near(exported([]api.Specimen{example, few[2], few[3]}), func(s string) { imported(t, s) })
}

// P9.1: the lines of an export in every other order are refused.
func TestImportOrder(t *testing.T) {
	source := rand.New(rand.NewSource(2))
	for n := 2; n <= 64; n++ {
		l := sorted(randomList(source, n))
		for range 20 {
			i, k := source.Intn(n), source.Intn(n)
			l[i], l[k] = l[k], l[i]
			text := ""
			for _, s := range l {
				text += textOf(s) + "\n"
			}
			imported(t, text)
			l[i], l[k] = l[k], l[i]
		}
	}
}

// P9.1: each list that Import returns is memory of its own.
func TestImportMemory(t *testing.T) {
	text := exported(few[2:4])
	one, _ := specimen.Import(text)
	fill(one)
	if two, e := specimen.Import(text); e != api.OK || !slices.Equal(two, few[2:4]) {
		t.Errorf("P9.1: Import: %v %d", two, e)
	}
}
