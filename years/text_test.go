package years_test

import (
	"strconv"
	"strings"
	"testing"

	"coinage/api"
	"coinage/years"
)

// nameOf is the name of a year: an era counts from 1 in its own direction.
func nameOf(year int) (string, string) {
	if year <= 0 {
		return strconv.Itoa(-year + 1), "BC"
	}
	return strconv.Itoa(year), "AD"
}

// textOf is the text of valid Years.
func textOf(y api.Years) string {
	first, era := nameOf(y.From)
	last, end := nameOf(y.To)
	if first == last && era == end {
		return first + " " + era
	}
	if era == end {
		return first + "-" + last + " " + era
	}
	return first + " " + era + "-" + last + " " + end
}

// checkText compares the text of Years and reads it back.
func checkText(t *testing.T, y api.Years, want string) {
	t.Helper()
	if got := years.Text(y); got != want {
		t.Fatalf("P4.1: Text(%v) = %q, want %q", y, got, want)
	}
	if back, e := years.Parse(want); e != api.OK || back != y {
		t.Fatalf("P4.3: Parse(%q): %v %d, want %v", want, back, e, y)
	}
}

// P4.1: the texts of the chapter, of the turn of the eras and of the limits.
func TestTextCases(t *testing.T) {
	for _, c := range []struct {
		y    api.Years
		want string
	}{
		{span(-449, -424), "450-425 BC"}, {span(14, 37), "14-37 AD"}, {span(-26, 14), "27 BC-14 AD"},
		{span(-43, -43), "44 BC"}, {span(14, 14), "14 AD"}, {span(0, 0), "1 BC"}, {span(1, 1), "1 AD"},
		{span(0, 1), "1 BC-1 AD"}, {span(-1, 0), "2-1 BC"}, {span(1, 2), "1-2 AD"}, {span(-9, 10), "10 BC-10 AD"},
		{span(-9999, -9999), "10000 BC"}, {span(9999, 9999), "9999 AD"}, {span(-9999, 9999), "10000 BC-9999 AD"},
		{span(-9999, 0), "10000-1 BC"}, {span(1, 9999), "1-9999 AD"},
	} {
		checkText(t, c.y, c.want)
	}
}

// P4.1, P4.3: texts and what is read from them, around the limits and the turn
// of the eras.
func TestTextAll(t *testing.T) {
	all := append(within(-25, 25), within(-9999, -9985)...)
	all = append(all, within(9985, 9999)...)
	for from := -9999; from <= 9999; from += 101 {
		for to := from; to <= 9999; to += 97 {
			all = append(all, span(from, to))
		}
	}
	for year := -9999; year <= 9999; year++ {
		all = append(all, span(year, year))
	}
	for _, y := range all {
		checkText(t, y, textOf(y))
	}
}

// P4.1: Years that are not valid have no text.
func TestTextInvalid(t *testing.T) {
	for _, y := range invalid {
		if got := years.Text(y); got != "" {
			t.Errorf("Text(%v) = %q", y, got)
		}
	}
}

// checkForm asks Parse to refuse a text.
func checkForm(t *testing.T, s string) {
	t.Helper()
	if y, e := years.Parse(s); e != api.ErrForm || y != (api.Years{}) {
		t.Errorf("P4.1: Parse(%q): %v %d", s, y, e)
	}
}

// P4.1: texts that no Years have.
func TestParseForm(t *testing.T) {
	for _, s := range []string{
		"", " ", "-", "--", "14", "AD", " AD", "BC", " BC", "14AD", "14 ad", "14 CE", "14  AD", " 14 AD", "14 AD ",
		"0 AD", "0 BC", "-1 AD", "-1 BC", "+1 AD", "01 AD", "1_0 AD", "0x1 AD", "1.0 AD", "1e3 AD", "10000 AD", "10001 BC",
		"37-14 AD", "425-450 BC", "14-14 AD", "14 AD-37 AD", "27 BC-14 BC", "14 AD-27 BC", "1 AD-1 BC", "44 BC-44 BC",
		"14-37", "14 AD-37", "14-37 AD-", "14-37-40 AD", "14--37 AD", "-14-37 AD", "14 -37 AD", "14- 37 AD", "14 - 37 AD",
		"14\u201337 AD", "0-5 AD", "5-0 BC", "1-10000 AD", "10001-1 BC", "10001 BC-1 AD", "1 BC-10000 AD", "1 BC-0 AD", "0 BC-1 AD",
		"27 BC-14", "27-14", "27-14 BC AD", "27 BC-14 AD\n", "\x0014 AD", "\uff11 AD", "AD 14", "14 AD BC",
		"18446744073709551617 AD", "9223372036854775808 BC", "9223372036854775807 BC", "5--9223372036854775808 BC",
		"18446744073709551617-2 AD", strings.Repeat("0", 1000) + "1 AD", strings.Repeat("-", 1000),
	} {
		checkForm(t, s)
	}
}

// edits lists the texts that differ from s in one byte, more or less.
func edits(s string) []string {
	const bytes = "0159- ABCDabcd+_\x00\xff"
	var list []string
	for i := range len(s) + 1 {
		for j := range len(bytes) {
			list = append(list, s[:i]+bytes[j:j+1]+s[i:])
			if i < len(s) {
				list = append(list, s[:i]+bytes[j:j+1]+s[i+1:])
			}
		}
		if i < len(s) {
			list = append(list, s[:i]+s[i+1:])
		}
	}
	return list
}

// P4.1, P4.3: what Parse reads has that text, and it reads all texts: those of
// a table of all Years that texts of two short numbers can name.
func TestParseEdits(t *testing.T) {
	table := map[string]api.Years{}
	for _, y := range within(-159, 159) {
		table[textOf(y)] = y
	}
	for _, text := range []string{"1 AD", "1 BC", "5 AD", "15 BC", "5-9 AD", "9-5 BC", "1 BC-1 AD", "15 BC-1 AD", "5-15 AD", "51-15 BC", "5 BC-9 AD"} {
		for _, s := range edits(text) {
			y, known := table[s]
			if got, e := years.Parse(s); known && (e != api.OK || got != y) {
				t.Fatalf("P4.3: Parse(%q): %v %d, want %v", s, got, e, y)
			} else if e == api.OK && textOf(got) != s || e != api.OK && (e != api.ErrForm || got != (api.Years{})) {
				t.Fatalf("P4.1: Parse(%q): %v %d", s, got, e)
			}
		}
	}
}
