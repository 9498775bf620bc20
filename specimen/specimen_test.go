package specimen_test

import (
	"math"
	"math/rand"
	"strings"
	"testing"

	"coinage/api"
	"coinage/specimen"
)

// checkText compares the validity and the text of any specimen, and reads the
// text again.
func checkText(t *testing.T, s api.Specimen) {
	t.Helper()
	if !isValid(s) {
		if text := specimen.Text(s); specimen.Valid(s) || text != "" {
			t.Fatalf("P9.1: %v is valid: %v, with the text %q", s, specimen.Valid(s), text)
		}
		return
	}
	if text := specimen.Text(s); !specimen.Valid(s) || text != textOf(s) {
		t.Fatalf("P9.1: %v is valid: %v, with the text %q", s, specimen.Valid(s), text)
	}
	if back, e := specimen.Parse(textOf(s)); e != api.OK || back != s {
		t.Fatalf("P9.2: Parse(%q): %v %d, want %v", textOf(s), back, e, s)
	}
}

// checkParse compares Parse of any text.
func checkParse(t *testing.T, s string) {
	t.Helper()
	want, found := parsed(s)
	got, e := specimen.Parse(s)
	if found && (e != api.OK || got != want) || !found && (e != api.ErrForm || got != (api.Specimen{})) {
		t.Fatalf("P9.1: Parse(%.60q): %v %d, want %v", s, got, e, want)
	}
}

// P9.1, P9.2: texts of the chapter and of the limits.
func TestTextCases(t *testing.T) {
	for want, s := range map[string]api.Specimen{
		"17 O3b/R12a 6h 16.820":        example,
		"1 O1a/R1a 12h 0.001":          of(1, 1, 1, 1, 1, 0, 1),
		"9999 O999i/R999i 11h 200.000": of(9999, 999, 999, 9, 9, 11, 200000),
		"10 O20c/R10d 1h 0.999":        of(10, 20, 10, 3, 4, 1, 999),
		"100 O9e/R99f 10h 1.000":       of(100, 9, 99, 5, 6, 10, 1000),
		"2 O100g/R5h 2h 17.005":        of(2, 100, 5, 7, 8, 2, 17005),
		"3 O1a/R2b 3h 0.010":           of(3, 1, 2, 1, 2, 3, 10),
		"4 O1a/R1b 9h 199.999":         of(4, 1, 1, 1, 2, 9, 199999),
		"5 O1a/R1b 5h 100.100":         of(5, 1, 1, 1, 2, 5, 100100),
	} {
		if got := specimen.Text(s); got != want || !specimen.Valid(s) {
			t.Errorf("P9.1: Text(%v) = %q, want %q", s, got, want)
		}
		if back, e := specimen.Parse(want); e != api.OK || back != s {
			t.Errorf("P9.2: Parse(%q): %v %d", want, back, e)
		}
	}
}

// P9.1, P9.2: all values of each field, and those beyond its limits, while the
// other fields are at their limits or between them.
func TestTextFields(t *testing.T) {
	least, greatest := api.Specimen{}, api.Specimen{}
	for i := range limits {
		*fields(&least)[i], *fields(&greatest)[i] = limits[i][0], limits[i][1]
	}
	for i, limit := range limits {
		for _, s := range []api.Specimen{example, least, greatest} {
			field := fields(&s)[i]
			for *field = limit[0] - 3; *field <= limit[1]+3; *field++ {
				checkText(t, s)
			}
			for _, n := range []int{math.MinInt, math.MinInt + 1, -1 << 32, 1 << 32, 1<<32 + 5, math.MaxInt - 1, math.MaxInt} {
				*field = n
				checkText(t, s)
			}
		}
	}
}

// P9.1, P9.2: specimens with any fields, most of them valid.
func TestTextRandom(t *testing.T) {
	source := rand.New(rand.NewSource(1))
	for range 100000 {
		s := random(source, 1+source.Intn(9999))
		if source.Intn(3) == 0 {
			i := source.Intn(7)
			*fields(&s)[i] += []int{-limits[i][1] - 1, limits[i][1] + 1, -1, 1}[source.Intn(4)]
		}
		checkText(t, s)
	}
	checkText(t, api.Specimen{})
}

// P9.1: texts that no specimen has; each part is changed alone.
func TestParseForm(t *testing.T) {
	bad := []string{"", " ", "   ", "17", "17 O3/R12a 6h 16.820", "17 O3b/R12 6h 16.820", "17 O3b 6h 16.820", "O3b/R12a 17 6h 16.820", "17 O3b/R12a 16.820 6h"}
	for _, id := range []string{
		"", "0", "00", "017", "-17", "+17", "10000", "17.0", "1e1", "0x11", "1_7", "17a", "#17", "18446744073709551633",
		"9223372036854775808", "4294967313", "\u0661",
	} {
		bad = append(bad, id+" O3b/R12a 6h 16.820")
	}
	for _, dies := range []string{
		"", "/", "O3b", "R12a/O3b", "O3b/O12a", "R3b/R12a", "O3b-R12a", "O0b/R12a", "O3b/R0a", "O1000b/R12a", "O3b/R1000a", "O03b/R12a",
		"O3j/R12a", "O3b/R12j", "O3B/R12a", "o3b/r12a", "O3bb/R12a", "O3b/R12a/", "O3b//R12a", "O3b/ R12a",
	} {
		bad = append(bad, "17 "+dies+" 6h 16.820")
	}
	for _, hour := range []string{
		"", "h", "6", "0h", "06h", "13h", "18h", "-6h", "+6h", "6H", "6hh", "h6", "6.0h", "24h", "612h", "18446744073709551622h",
		"9223372036854775808h", "6 h", "12 h",
	} {
		bad = append(bad, "17 O3b/R12a "+hour+" 16.820")
	}
	for _, grams := range []string{
		"", ".", "16", "16.", "16820", ".820", "16.82", "16.8200", "16.8.20", "16..820", "016.820", "00.820", "0.000", "0.00", "200.001",
		"1000.000", "-16.820", "+16.820", "16,820", "16.-20", "16.+20", "16.82a", "16.820g", "1.6820", "168.20", "1682.0", "16820.",
		"18446744073709551.616", "18446744073709568.436", "9223372036854775.808",
	} {
		bad = append(bad, "17 O3b/R12a 6h "+grams)
	}
	for _, s := range bad {
		if x, e := specimen.Parse(s); e != api.ErrForm || x != (api.Specimen{}) {
			t.Errorf("P9.1: Parse(%q): %v %d", s, x, e)
		}
		checkParse(t, s)
	}
}

// P9.1, P9.2: all texts that differ at one place from the text of a specimen.
func TestParseNear(t *testing.T) {
	source := rand.New(rand.NewSource(2))
	list := []api.Specimen{example, of(1, 1, 1, 1, 1, 0, 1), of(9999, 999, 999, 9, 9, 11, 200000), of(1000, 10, 100, 1, 9, 1, 10000)}
	for range 20 {
		list = append(list, random(source, 1+source.Intn(9999)))
	}
	for _, x := range list {
		near(textOf(x), func(s string) { checkParse(t, s) })
	}
}

// P9.1, P9.2: texts put together from parts, right and wrong ones.
func TestParseParts(t *testing.T) {
	for _, id := range []string{"1", "9999", "0", "10000", "01", ""} {
		for _, dies := range []string{"O1a/R1a", "O999i/R999i", "O1/R1a", "O1a/R1", "O0a/R1a", "R1a/O1a", ""} {
			for _, hour := range []string{"12h", "1h", "11h", "0h", "13h", "12", ""} {
				for _, grams := range []string{"0.001", "200.000", "9.999", "0.000", "200.001", "1.00", "1", ""} {
					for _, space := range []string{" ", "  ", "", "\t", "\n"} {
						checkParse(t, id+space+dies+" "+hour+" "+grams)
						checkParse(t, id+" "+dies+space+hour+" "+grams)
						checkParse(t, id+" "+dies+" "+hour+space+grams)
						checkParse(t, id+" "+dies+" "+hour+" "+grams+space)
						checkParse(t, space+id+" "+dies+" "+hour+" "+grams)
					}
				}
			}
		}
	}
}

// P9.1: long texts are refused too.
func TestParseLong(t *testing.T) {
	text := textOf(example)
	for _, s := range []string{"0", "1", " ", "a", "h", ".", "/", "O3b/R12a ", text, text + "\n", "\x00"} {
		long := strings.Repeat(s, 100000)
		for _, whole := range []string{
			long, text + long, long + text, "17 O3b/R12a 6h " + long, "17 O3b/R12a " + long + "h 16.820", long + " O3b/R12a 6h 16.820",
			"17 O3b/R12a 6h 16." + long,
		} {
			if x, e := specimen.Parse(whole); e != api.ErrForm || x != (api.Specimen{}) {
				t.Errorf("P9.1: Parse of %d bytes from %.30q on: %v %d", len(whole), whole, x, e)
			}
		}
	}
}
