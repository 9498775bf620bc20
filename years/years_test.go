package years_test

import (
	"math"
	"testing"

	"coinage/api"
	"coinage/years"
)

// span is a short way to write Years.
func span(from, to int) api.Years { return api.Years{From: from, To: to} }

// invalid are Years that are not valid, each for another reason.
var invalid = []api.Years{
	span(1, 0), span(0, -1), span(9999, -9999), span(10000, 10000), span(-10000, -10000), span(-10000, 5),
	span(5, 10000), span(-10000, 10000), span(math.MinInt, math.MaxInt), span(math.MaxInt, math.MinInt),
	span(math.MinInt, math.MinInt), span(math.MaxInt, math.MaxInt), span(math.MinInt, 0), span(0, math.MaxInt),
	span(math.MaxInt, 0), span(0, math.MinInt),
}

// extremes are valid Years at the limits.
var extremes = []api.Years{
	span(-9999, -9999), span(9999, 9999), span(-9999, 9999), span(-9999, -9998), span(9998, 9999), span(-9999, 0),
	span(1, 9999), span(0, 0),
}

// within lists all valid Years from low to high.
func within(low, high int) []api.Years {
	var list []api.Years
	for from := low; from <= high; from++ {
		for to := from; to <= high; to++ {
			list = append(list, span(from, to))
		}
	}
	return list
}

// has reports whether y contains a year.
func has(y api.Years, year int) bool { return y.From <= year && year <= y.To }

// P4.1: Valid, at the limits, next to them and far from them.
func TestValid(t *testing.T) {
	for _, y := range invalid {
		if years.Valid(y) {
			t.Errorf("Valid(%v)", y)
		}
	}
	for _, y := range append(within(-30, 30), extremes...) {
		if !years.Valid(y) {
			t.Errorf("Valid(%v) is false", y)
		}
		if back := span(y.To, y.From); y.From != y.To && years.Valid(back) {
			t.Errorf("Valid(%v)", back)
		}
	}
}

// P4.1: Length, compared with counting, and 0 for all that is not valid.
func TestLength(t *testing.T) {
	for _, y := range append(within(-30, 30), extremes...) {
		count := 0
		for year := -10001; year <= 10001; year++ {
			if has(y, year) {
				count++
			}
		}
		if got := years.Length(y); got != count {
			t.Errorf("Length(%v) = %d, want %d", y, got, count)
		}
	}
	for _, y := range invalid {
		if got := years.Length(y); got != 0 {
			t.Errorf("Length(%v) = %d", y, got)
		}
	}
	if got := years.Length(span(-449, -424)); got != 26 {
		t.Errorf("Length(-449, -424) = %d", got)
	}
}

// checkMeet compares Meet with the years from low to high that are in both.
func checkMeet(t *testing.T, a, b api.Years, low, high int) {
	t.Helper()
	got, ok := years.Meet(a, b)
	some := false
	for year := low; year <= high; year++ {
		both := has(a, year) && has(b, year)
		some = some || both
		if both != (ok && has(got, year)) {
			t.Fatalf("Meet(%v, %v): %v %t", a, b, got, ok)
		}
	}
	if ok != some || !ok && got != (api.Years{}) {
		t.Fatalf("Meet(%v, %v): %v %t", a, b, got, ok)
	}
}

// P4.1, P4.4: Meet contains exactly the years that are in both.
func TestMeet(t *testing.T) {
	list := within(-4, 4)
	for _, a := range list {
		for _, b := range list {
			checkMeet(t, a, b, -6, 6)
		}
	}
	for _, a := range extremes {
		for _, b := range extremes {
			checkMeet(t, a, b, -10001, 10001)
		}
	}
	if got, ok := years.Meet(span(1, 5), span(4, 9)); !ok || got != span(4, 5) {
		t.Errorf("Meet: %v %t", got, ok)
	}
}

// checkHull asks that Hull contains both and that nothing less does.
func checkHull(t *testing.T, a, b api.Years) {
	t.Helper()
	got, e := years.Hull(a, b)
	if e != api.OK || !years.Valid(got) {
		t.Fatalf("Hull(%v, %v): %v %d", a, b, got, e)
	}
	for _, y := range []api.Years{a, b} {
		if !has(got, y.From) || !has(got, y.To) {
			t.Fatalf("Hull(%v, %v): %v", a, b, got)
		}
	}
	if got.From != a.From && got.From != b.From || got.To != a.To && got.To != b.To {
		t.Fatalf("Hull(%v, %v): %v", a, b, got)
	}
}

// P4.1, P4.4: Hull contains both, and is the least one that does.
func TestHull(t *testing.T) {
	list := append(within(-4, 4), extremes...)
	for _, a := range list {
		for _, b := range list {
			checkHull(t, a, b)
		}
	}
	if got, e := years.Hull(span(1, 2), span(8, 9)); e != api.OK || got != span(1, 9) {
		t.Errorf("Hull: %v %d", got, e)
	}
}

// P4.1: the functions of two Years, if one or both are not valid.
func TestInvalidPairs(t *testing.T) {
	check := func(a, b api.Years) {
		t.Helper()
		if got, ok := years.Meet(a, b); ok || got != (api.Years{}) {
			t.Errorf("Meet(%v, %v): %v %t", a, b, got, ok)
		}
		if got, e := years.Hull(a, b); e != api.ErrArg || got != (api.Years{}) {
			t.Errorf("Hull(%v, %v): %v %d", a, b, got, e)
		}
		if got := years.Relation(a, b); got != 0 {
			t.Errorf("Relation(%v, %v) = %d", a, b, got)
		}
	}
	for _, a := range invalid {
		for _, b := range append(within(-2, 2), extremes...) {
			check(a, b)
			check(b, a)
		}
		for _, b := range invalid {
			check(a, b)
		}
	}
}

// checkGrow compares Grow with what stays within the limits; steps of n are
// taken one by one, so that no sum can overflow.
func checkGrow(t *testing.T, a api.Years, n int) {
	t.Helper()
	want, e := a, api.OK
	for range min(n, 20001) {
		want = span(want.From-1, want.To+1)
	}
	if n < 0 || n > 20000 || want.From < -9999 || want.To > 9999 {
		want, e = api.Years{}, api.ErrRange
	}
	if got, f := years.Grow(a, n); f != e || got != want {
		t.Fatalf("Grow(%v, %d): %v %d, want %v %d", a, n, got, f, want, e)
	}
}

// P4.1: Grow, up to the limits at either end and beyond them.
func TestGrow(t *testing.T) {
	steps := []int{0, 1, 2, 3, 9998, 9999, 10000, 19998, 19999, -1, -2, -9999, math.MinInt, math.MinInt + 1, math.MaxInt - 1, math.MaxInt}
	starts := append(within(-3, 3), extremes...)
	starts = append(starts, within(-9999, -9996)...)
	starts = append(starts, within(9996, 9999)...)
	starts = append(starts, span(-9990, 9980), span(-9980, 9990))
	for _, a := range starts {
		for _, n := range append(steps, 7, 8, 9, 10, 18, 19, 20) {
			checkGrow(t, a, n)
		}
	}
	if got, e := years.Grow(span(1, 2), 3); e != api.OK || got != span(-2, 5) {
		t.Errorf("Grow: %v %d", got, e)
	}
	// Years that are not valid are named before the number.
	for _, a := range invalid {
		for _, n := range steps {
			if got, e := years.Grow(a, n); e != api.ErrArg || got != (api.Years{}) {
				t.Errorf("Grow(%v, %d): %v %d", a, n, got, e)
			}
		}
	}
}
