package fraction

import (
	"strings"

	"coinage/api"
	"coinage/natural"
)

// The limits of texts and decimals.
const (
	maxText     = 4000 // bytes that Parse reads
	maxNotation = 200  // bytes that ParseDecimal reads
	maxPlaces   = 20   // digits after the point that Decimal writes
)

// Text returns the text of the number x.
func Text(x Fraction) string {
	return canonicalText(Norm(x))
}

// canonicalText returns the text of a canonical Fraction.
func canonicalText(x Fraction) string {
	text := natural.Text(x.Num)
	if natural.Cmp(x.Den, natural.Of(1)) != 0 {
		text += "/" + natural.Text(x.Den)
	}
	if x.Neg {
		return "-" + text
	}
	return text
}

// Parse returns the number whose text s is; ErrFull if s is too long, ErrForm
// if there is none.
func Parse(s string) (Fraction, Errno) {
	if len(s) > maxText {
		return Fraction{}, api.ErrFull
	}
	digits, neg := strings.CutPrefix(s, "-")
	above, below, slash := strings.Cut(digits, "/")
	if !slash {
		below = "1"
	}
	num, e1 := natural.Parse(above)
	den, e2 := natural.Parse(below)
	if e1 != api.OK || e2 != api.OK {
		return Fraction{}, api.ErrForm
	}
	x := Norm(Fraction{Neg: neg, Num: num, Den: den})
	// A number has one text only, so this refuses all other ways to write it.
	if canonicalText(x) != s {
		return Fraction{}, api.ErrForm
	}
	return x, api.OK
}

// Decimal returns x in decimal notation with k digits after the point, rounded
// to the nearest such number; ErrRange if k is out of its limits.
func Decimal(x Fraction, k int) (string, Errno) {
	if k < 0 || k > maxPlaces {
		return "", api.ErrRange
	}
	units := roundedUnits(x, k)
	digits := natural.Text(units)
	if missing := k + 1 - len(digits); missing > 0 {
		digits = strings.Repeat("0", missing) + digits
	}
	if k > 0 {
		point := len(digits) - k
		digits = digits[:point] + "." + digits[point:]
	}
	if x.Neg && !isZero(units) {
		return "-" + digits, api.OK
	}
	return digits, api.OK
}

// roundedUnits returns how many times 10^-k goes into x regardless of its
// sign, rounded to the nearest natural, halves up.
func roundedUnits(x Fraction, k int) Natural {
	x = proper(x)
	two := natural.Of(2)
	num := natural.Mul(natural.Mul(x.Num, unitsOfOne(k)), two)
	units, _, _ := natural.DivMod(natural.Add(num, x.Den), natural.Mul(x.Den, two))
	return units
}

// unitsOfOne returns 10^k. All k of this package are within the limits of Pow.
func unitsOfOne(k int) Natural {
	units, _ := natural.Pow(natural.Of(10), k)
	return units
}

// ParseDecimal returns the number in decimal notation that s is; ErrFull if s
// is too long, ErrForm if there is none.
func ParseDecimal(s string) (Fraction, Errno) {
	if len(s) > maxNotation {
		return Fraction{}, api.ErrFull
	}
	digits, neg := strings.CutPrefix(s, "-")
	before, after, point := strings.Cut(digits, ".")
	whole, e := natural.Parse(before)
	part, ok := readDigits(after)
	if e != api.OK || point && !ok {
		return Fraction{}, api.ErrForm
	}
	units := unitsOfOne(len(after))
	num := natural.Add(natural.Mul(whole, units), part)
	return Norm(Fraction{Neg: neg, Num: num, Den: units}), api.OK
}

// readDigits returns the value of one or more digits, which may begin with
// zeros, and whether they are digits.
func readDigits(digits string) (Natural, bool) {
	significant := strings.TrimLeft(digits, "0")
	if significant == "" {
		return Natural{}, digits != ""
	}
	value, e := natural.Parse(significant)
	return value, e == api.OK
}
