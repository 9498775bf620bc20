package fraction_test

import (
	"math"
	"math/big"
	"strings"
	"testing"

	"coinage/api"
	"coinage/fraction"
)

// half10 returns half of 10^-k.
func half10(k int) *big.Rat {
	unit := new(big.Int).Exp(big.NewInt(10), big.NewInt(int64(k)), nil)
	return new(big.Rat).SetFrac(big.NewInt(1), unit.Mul(unit, big.NewInt(2)))
}

// P2.1 and P2.4: Text of numbers of all forms; Parse inverts it, and different
// numbers have different texts.
func TestTextAndParse(t *testing.T) {
	for _, x := range samples() {
		text := fraction.Text(x)
		if text != value(x).RatString() {
			t.Error(x, text)
		}
		back, e := fraction.Parse(text)
		if check(t, text, back, value(x)); e != api.OK {
			t.Error(text, e)
		}
	}
	pairs(func(a, b api.Fraction) {
		if (fraction.Text(a) == fraction.Text(b)) != (value(a).Cmp(value(b)) == 0) {
			t.Error(a, b)
		}
	})
	for want, x := range map[string]api.Fraction{
		"-3/4": fraction.Of(-3, 4), "5": {Num: nat(10), Den: nat(2)}, "0": {Neg: true, Num: nat(3)}, "-7": {Neg: true, Num: nat(7, 0), Den: nat(1, 0)},
		"1000000000/1000000001": {Num: nat(1000000000), Den: nat(1000000001)},
	} {
		if got := fraction.Text(x); got != want {
			t.Error(got, want)
		}
	}
}

// P2.1: Parse reads texts, in canonical form only.
func TestParse(t *testing.T) {
	for s, want := range map[string]*big.Rat{
		"0": big.NewRat(0, 1), "1": big.NewRat(1, 1), "-1": big.NewRat(-1, 1), "1/2": big.NewRat(1, 2), "-3/4": big.NewRat(-3, 4),
		"10": big.NewRat(10, 1), "999999999999/1000000000000": big.NewRat(999999999999, 1000000000000),
	} {
		got, e := fraction.Parse(s)
		if check(t, s, got, want); e != api.OK {
			t.Error(s, e)
		}
	}
	for _, s := range []string{
		"", "-", "/", "-/", "1/", "/2", "-/2", "2/4", "3/1", "-3/1", "0/1", "0/5", "1/0", "0/0", "-1/0", "5/5",
		"-0", "-0/1", "+1", "--1", "1/-2", "-1/-2", "1/+2", "01", "1/02", "01/2", "00", "1/2/3", "1//2", "1.5", "1/2.5",
		" 1", "1 ", "1 /2", "1/ 2", "1/2\n", "x", "1/x", "x/2", "1_0", "1e3", "0x1", "\u0661", "1\x00",
	} {
		got, e := fraction.Parse(s)
		checkZero(t, s, got, e, api.ErrForm)
	}
}

// P2.1 and P2.4: Parse at its limit of 4000 bytes, which goes before the form.
func TestParseLimit(t *testing.T) {
	tens, nines := "1"+strings.Repeat("0", 1998), strings.Repeat("9", 1999)
	for _, s := range []string{strings.Repeat("9", 4000), "-" + strings.Repeat("9", 3999), "-" + tens + "/" + nines, "1/" + strings.Repeat("7", 3998)} {
		if len(s) > 4000 {
			t.Fatal(len(s))
		}
		got, e := fraction.Parse(s)
		want, _ := new(big.Rat).SetString(s)
		if check(t, "long", got, want); e != api.OK || fraction.Text(got) != s {
			t.Error(len(s), e)
		}
	}
	got, e := fraction.Parse("3/" + strings.Repeat("3", 3998))
	checkZero(t, "long", got, e, api.ErrForm)
	for _, s := range []string{strings.Repeat("9", 4001), strings.Repeat("x", 4001), "-" + strings.Repeat("9", 4000), tens + "0/" + nines + "9"} {
		got, e := fraction.Parse(s)
		checkZero(t, "too long", got, e, api.ErrFull)
	}
}

// P2.1: the examples of Decimal, its halves and its sign.
func TestDecimal(t *testing.T) {
	for _, c := range []struct {
		n, d, k int
		want    string
	}{
		{2, 3, 2, "0.67"}, {-5, 2, 0, "-3"}, {-1, 1000, 2, "0.00"}, {1, 8, 2, "0.13"}, {-1, 8, 2, "-0.13"},
		{5, 2, 0, "3"}, {1, 2, 0, "1"}, {-1, 2, 0, "-1"}, {49, 100, 0, "0"}, {-49, 100, 0, "0"}, {3, 2, 0, "2"},
		{0, 1, 0, "0"}, {0, 1, 3, "0.000"}, {0, 0, 1, "0.0"}, {7, 1, 0, "7"}, {7, 1, 1, "7.0"}, {-10, 1, 2, "-10.00"}, {100, 1, 0, "100"},
		{1, 200, 2, "0.01"}, {-1, 200, 2, "-0.01"}, {1, 201, 2, "0.00"}, {-1, 201, 2, "0.00"}, {1, 20, 1, "0.1"}, {1, 3, 20, "0.33333333333333333333"},
		{999, 1000, 2, "1.00"}, {-9999, 1000, 2, "-10.00"}, {12345, 100, 1, "123.5"}, {1, math.MaxInt, 20, "0.00000000000000000011"},
	} {
		got, e := fraction.Decimal(fraction.Of(c.n, c.d), c.k)
		if got != c.want || e != api.OK {
			t.Error(c, got, e)
		}
	}
	for _, k := range []int{-1, 21, math.MinInt, math.MaxInt} {
		if got, e := fraction.Decimal(fraction.Of(1, 2), k); got != "" || e != api.ErrRange {
			t.Error(k, got, e)
		}
	}
}

// P2.1 and P2.5: decimals of numbers of all forms have their form, and what is
// read from them differs by at most half a unit.
func TestDecimalIsNearest(t *testing.T) {
	list := samples()
	for n := -60; n <= 60; n++ {
		list = append(list, fraction.Of(n, 8), fraction.Of(n, 7), fraction.Of(n, 2000))
	}
	for _, x := range list {
		for k := 0; k <= 20; k++ {
			checkDecimal(t, x, k)
		}
	}
}

func checkDecimal(t *testing.T, x api.Fraction, k int) {
	t.Helper()
	text, e := fraction.Decimal(x, k)
	want := value(x)
	// FloatString rounds halves away from zero too, but keeps the sign of 0.
	form := want.FloatString(k)
	if strings.Trim(form, "-0.") == "" {
		form = strings.TrimPrefix(form, "-")
	}
	if text != form || e != api.OK {
		t.Fatal(x, k, text, form, e)
	}
	back, e := fraction.ParseDecimal(text)
	difference := new(big.Rat).Sub(value(back), want)
	if !isCanonical(back) || e != api.OK || difference.Abs(difference).Cmp(half10(k)) > 0 {
		t.Fatal(x, k, text, back, e)
	}
}

// P2.1: ParseDecimal reads decimal notation and nothing else.
func TestParseDecimal(t *testing.T) {
	for s, want := range map[string]*big.Rat{
		"0": big.NewRat(0, 1), "-0": big.NewRat(0, 1), "-0.00": big.NewRat(0, 1), "0.0": big.NewRat(0, 1), "-0.50": big.NewRat(-1, 2),
		"7": big.NewRat(7, 1), "-7": big.NewRat(-7, 1), "10": big.NewRat(10, 1), "16.820": big.NewRat(841, 50), "0.001": big.NewRat(1, 1000),
		"1.000": big.NewRat(1, 1), "-12.05": big.NewRat(-241, 20), "1234567890.5": big.NewRat(2469135781, 2),
	} {
		got, e := fraction.ParseDecimal(s)
		if check(t, s, got, want); e != api.OK {
			t.Error(s, e)
		}
	}
	for _, s := range []string{
		"", "-", ".", "-.", "01", "00", "-01", "00.5", "01.5", ".5", "-.5", "5.", "-5.", "1.2.3", "1..2", "+1", "--1", "-+1", "1.-5", "1.+5",
		" 1", "1 ", "1. 5", "1.5 ", "x", "1.x", "x.1", "1.5x", "1.0x", "1,5", "1/2", "1.1/2", "1e3", "1.e3", "1_0", "0x1", "1.5\n", "\u0661", "1.\u0661",
	} {
		got, e := fraction.ParseDecimal(s)
		checkZero(t, s, got, e, api.ErrForm)
	}
}

// P2.1: ParseDecimal at its limit of 200 bytes, which goes before the form.
func TestParseDecimalLimit(t *testing.T) {
	for _, s := range []string{strings.Repeat("9", 200), "0." + strings.Repeat("0", 198), "0." + strings.Repeat("0", 197) + "1", "-3." + strings.Repeat("7", 197), "-" + strings.Repeat("8", 197) + ".5"} {
		if len(s) != 200 {
			t.Fatal(len(s))
		}
		got, e := fraction.ParseDecimal(s)
		want, _ := new(big.Rat).SetString(s)
		if check(t, s, got, want); e != api.OK {
			t.Error(s, e)
		}
		got, e = fraction.ParseDecimal(s + "0")
		checkZero(t, "too long", got, e, api.ErrFull)
	}
	got, e := fraction.ParseDecimal(strings.Repeat("x", 201))
	checkZero(t, "too long", got, e, api.ErrFull)
	got, e = fraction.ParseDecimal(strings.Repeat("0", 200))
	checkZero(t, "zeros", got, e, api.ErrForm)
}
