package label_test

import (
	"fmt"
	"math"
	"strings"
	"testing"

	"coinage/api"
	"coinage/label"
)

// of makes a label.
func of(side, number, state int) api.Label {
	return api.Label{Side: side, Number: number, State: state}
}

// valid lists all valid labels, in their order.
func valid() []api.Label {
	var list []api.Label
	for side := range 2 {
		for number := 1; number <= 999; number++ {
			for state := range 10 {
				list = append(list, of(side, number, state))
			}
		}
	}
	return list
}

// invalid are labels that miss the limits, in one field or in several.
var invalid = []api.Label{
	{}, of(0, 0, 3), of(1, 0, 0), of(0, -1, 0), of(1, 1000, 0), of(0, 1000, 9), of(1, math.MaxInt, 0), of(0, math.MinInt, 0),
	of(-1, 5, 0), of(2, 5, 0), of(3, 5, 1), of(math.MaxInt, 5, 0), of(math.MinInt, 5, 0),
	of(0, 5, -1), of(1, 5, 10), of(0, 5, 11), of(1, 5, math.MaxInt), of(0, 5, math.MinInt),
	of(-1, 0, -1), of(2, 1000, 10), of(2, 1000, 0), of(0, 1000, 10), of(-1, 5, -1),
}

// textOf is the text of a valid label.
func textOf(l api.Label) string {
	text := fmt.Sprintf("O%d", l.Number)
	if l.Side == 1 {
		text = fmt.Sprintf("R%d", l.Number)
	}
	if l.State > 0 {
		text += string(rune('a' + l.State - 1))
	}
	return text
}

// P5.1, P5.2, P5.3: all valid labels have their texts, which are different and
// are read back.
func TestTextAll(t *testing.T) {
	seen := map[string]api.Label{}
	for _, l := range valid() {
		if !label.Valid(l) {
			t.Fatalf("P5.1: %v is not valid", l)
		}
		text := label.Text(l)
		if text != textOf(l) {
			t.Fatalf("P5.1: Text(%v) = %q", l, text)
		}
		if other, known := seen[text]; known {
			t.Fatalf("P5.3: %v and %v have the text %q", other, l, text)
		}
		seen[text] = l
		if back, e := label.Parse(text); e != api.OK || back != l {
			t.Fatalf("P5.2: Parse(%q): %v %d, want %v", text, back, e, l)
		}
	}
	if len(seen) != 2*999*10 {
		t.Errorf("P5.3: %d texts", len(seen))
	}
}

// P5.1: texts of the chapter and of the limits.
func TestTextCases(t *testing.T) {
	for _, c := range []struct {
		l    api.Label
		want string
	}{
		{of(0, 12, 0), "O12"}, {of(1, 7, 3), "R7c"}, {of(0, 1, 0), "O1"}, {of(1, 1, 0), "R1"}, {of(0, 999, 0), "O999"},
		{of(1, 999, 9), "R999i"}, {of(0, 10, 1), "O10a"}, {of(1, 100, 2), "R100b"}, {of(0, 5, 8), "O5h"},
	} {
		if got := label.Text(c.l); got != c.want {
			t.Errorf("P5.1: Text(%v) = %q, want %q", c.l, got, c.want)
		}
		if back, e := label.Parse(c.want); e != api.OK || back != c.l {
			t.Errorf("P5.2: Parse(%q): %v %d", c.want, back, e)
		}
	}
}

// P5.1: labels that miss the limits are not valid and have no text.
func TestInvalid(t *testing.T) {
	for _, l := range invalid {
		if text := label.Text(l); label.Valid(l) || text != "" {
			t.Errorf("P5.1: %v is valid: %v, with the text %q", l, label.Valid(l), text)
		}
	}
	// Valid labels, moved beyond the limits of one field.
	for _, l := range valid() {
		for _, bad := range []api.Label{
			of(l.Side-2, l.Number, l.State), of(l.Side+2, l.Number, l.State), of(l.Side, l.Number-999, l.State),
			of(l.Side, l.Number+999, l.State), of(l.Side, l.Number, l.State-10), of(l.Side, l.Number, l.State+10),
		} {
			if label.Valid(bad) || label.Text(bad) != "" {
				t.Fatalf("P5.1: %v is valid or has the text %q", bad, label.Text(bad))
			}
		}
	}
}

// checkForm asks Parse to refuse a text.
func checkForm(t *testing.T, s string) {
	t.Helper()
	if l, e := label.Parse(s); e != api.ErrForm || l != (api.Label{}) {
		t.Errorf("P5.1: Parse(%.40q): %v %d", s, l, e)
	}
}

// malformed are texts that no label has.
var malformed = []string{
	"", " ", "O", "R", "a", "i", "Oa", "Ri", "12", "7c", "12a", "OR", "O R", "R07", "O01", "O00", "O0", "R0a", "O-1", "R+7", "R-7c",
	"O1000", "R1000a", "O9999", "o12", "r7", "o12a", "X12", "P5", "Q5c", "N1", "O12A", "R7C", "R7j", "R7`", "R7z", "R7 c", "R7cc", "R7ab", "R7ia",
	" O12", "O12 ", "O 12", "O12\n", "O12\x00", "\x00O12", "\xffO12", "O12\xff", "OO12", "RO12", "O12O", "O12R", "O12/R7", "O12/", "/R7", "O12,", "O1,2",
	"O1_2", "O0x1", "O1e2", "O1.0", "O12.", "O\u0661", "\u041e12", "O12\u0430", "\uff2f12", "O12\u00aa", "O1-2", "c7R", "cR7", "Rc7", "R7c7", "R7c0",
	"O18446744073709551617", "O9223372036854775808a", "O4294967297", "R65537", "R-18446744073709551609",
}

// P5.1: texts that no label has; long ones are refused too.
func TestParseForm(t *testing.T) {
	for _, s := range malformed {
		checkForm(t, s)
	}
	for _, s := range []string{"0", "a", "9", "O", "R", " ", "-", "\x00"} {
		long := strings.Repeat(s, 100000)
		for _, text := range []string{long, "O" + long, "R" + long + "1", "O12" + long, "R7c" + long, "O" + long + "12a"} {
			checkForm(t, text)
		}
	}
}

// P5.1, P5.2: of all short texts, Parse reads those of labels and no other.
func TestParseShort(t *testing.T) {
	const bytes = "OR0179abijA- +/\x00\xff"
	table := map[string]api.Label{}
	for _, l := range valid() {
		table[textOf(l)] = l
	}
	short(bytes, 5, func(s string) {
		want, known := table[s]
		got, e := label.Parse(s)
		if known && (e != api.OK || got != want) || !known && (e != api.ErrForm || got != (api.Label{})) {
			t.Fatalf("P5.1: Parse(%q): %v %d", s, got, e)
		}
	})
}

// short calls yield with all texts of up to n of the bytes.
func short(bytes string, n int, yield func(string)) {
	var longer func(string)
	longer = func(s string) {
		yield(s)
		if len(s) < n {
			for i := range len(bytes) {
				longer(s + bytes[i:i+1])
			}
		}
	}
	longer("")
}
