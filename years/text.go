package years

import (
	"strconv"
	"strings"

	"coinage/api"
)

// The eras, as they follow the number of a year.
const (
	before = " BC"
	after  = " AD"
)

// Text returns the text of y; "" if y is not valid.
func Text(y Years) string {
	switch {
	case !Valid(y):
		return ""
	case y.From == y.To:
		return name(y.To)
	case era(y.From) == era(y.To):
		return number(y.From) + "-" + name(y.To)
	}
	return name(y.From) + "-" + name(y.To)
}

// Parse returns the Years whose text s is; ErrForm if there are none.
func Parse(s string) (Years, Errno) {
	from, to, hyphen := strings.Cut(s, "-")
	if !hyphen {
		to = from
	}
	last, found := year(to)
	if !found {
		return Years{}, api.ErrForm
	}
	// The first name stands without its era where both have the same one.
	first, found := year(from)
	if !found {
		first, found = year(from + era(last))
	}
	y := Years{From: first, To: last}
	// Years have one text only, so this refuses all other ways to write them,
	// and all that are not valid.
	if !found || Text(y) != s {
		return Years{}, api.ErrForm
	}
	return y, api.OK
}

// name returns the name of the year n.
func name(n int) string { return number(n) + era(n) }

// number returns the number of the year n in its era, in which there is no 0.
func number(n int) string {
	if n > 0 {
		return strconv.Itoa(n)
	}
	return strconv.Itoa(1 - n)
}

// era returns the era of the year n.
func era(n int) string {
	if n > 0 {
		return after
	}
	return before
}

// year returns the year that a text names; false if it has not the form of a
// name.
func year(text string) (int, bool) {
	if digits, found := strings.CutSuffix(text, after); found {
		n, e := strconv.Atoi(digits)
		return n, e == nil
	}
	digits, found := strings.CutSuffix(text, before)
	n, e := strconv.Atoi(digits)
	return 1 - n, found && e == nil
}
