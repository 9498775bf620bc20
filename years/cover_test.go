package years_test

import (
	"slices"
	"testing"

	"coinage/api"
	"coinage/years"
)

// anyHas reports whether one of the list contains a year.
func anyHas(list []api.Years, year int) bool {
	return slices.ContainsFunc(list, func(y api.Years) bool { return has(y, year) })
}

// checkCover compares Cover with the years from low to high in the list, and
// asks that there is one in none between each two of the result.
func checkCover(t *testing.T, list []api.Years, low, high int) {
	t.Helper()
	got, e := years.Cover(list)
	if e != api.OK {
		t.Fatalf("P4.1: Cover(%v): error %d", list, e)
	}
	for i, y := range got {
		if !years.Valid(y) || i > 0 && y.From < got[i-1].To+2 {
			t.Fatalf("P4.1: Cover(%v): %v", list, got)
		}
	}
	for year := low; year <= high; year++ {
		if anyHas(list, year) != anyHas(got, year) {
			t.Fatalf("P4.4: Cover(%v): %v", list, got)
		}
	}
}

// P4.1, P4.4: Cover of all lists of up to three short Years.
func TestCoverShort(t *testing.T) {
	list := within(-2, 4)
	checkCover(t, nil, -4, 6)
	for _, a := range list {
		checkCover(t, []api.Years{a}, -4, 6)
		for _, b := range list {
			checkCover(t, []api.Years{a, b}, -4, 6)
			for _, c := range list {
				checkCover(t, []api.Years{a, b, c}, -4, 6)
			}
		}
	}
}

// P4.1, P4.4: Cover of long lists, with few and with many years in common.
func TestCoverLong(t *testing.T) {
	seed := uint32(1)
	next := func(n int) int {
		seed = seed*1664525 + 1013904223
		return int(seed>>8) % n
	}
	for round := range 300 {
		list := make([]api.Years, next(65))
		for i := range list {
			from := next(400) - 200
			list[i] = span(from, from+next(1+round%20))
		}
		checkCover(t, list, -205, 225)
	}
	checkCover(t, extremes, -10001, 10001)
	checkCover(t, []api.Years{span(9999, 9999), span(-9999, -9999)}, -10001, 10001)
}

// P4.1: the example of the chapter.
func TestCoverExample(t *testing.T) {
	got, e := years.Cover([]api.Years{span(4, 6), span(1, 3), span(9, 9)})
	if e != api.OK || !slices.Equal(got, []api.Years{span(1, 6), span(9, 9)}) {
		t.Errorf("Cover: %v %d", got, e)
	}
}

// P4.1: 64 Years are permitted, which stay 64 if nothing joins them; 65 are
// not, whatever they are.
func TestCoverFull(t *testing.T) {
	list := make([]api.Years, 65)
	for i := range list {
		list[i] = span(1000-2*i, 1000-2*i)
	}
	got, e := years.Cover(list[:64])
	if e != api.OK || len(got) != 64 || got[0] != span(874, 874) {
		t.Errorf("64 Years: %v %d", got, e)
	}
	for _, last := range append(invalid, list[0]) {
		list[64] = last
		if got, e := years.Cover(list); e != api.ErrFull || len(got) != 0 {
			t.Errorf("65 Years: %v %d", got, e)
		}
	}
}

// P4.1: one of the list that is not valid, at every place.
func TestCoverInvalid(t *testing.T) {
	for _, bad := range invalid {
		for place := range 64 {
			list := make([]api.Years, 64)
			list[place] = bad
			if got, e := years.Cover(list); e != api.ErrArg || len(got) != 0 {
				t.Fatalf("Cover with %v: %v %d", bad, got, e)
			}
		}
	}
}

// P4.1: Cover changes neither its argument nor the capacity behind it, and the
// result is memory of its own.
func TestCoverMemory(t *testing.T) {
	whole := []api.Years{span(4, 6), span(1, 3), span(9, 9), span(77, 77), span(77, 77)}
	before := slices.Clone(whole)
	got, _ := years.Cover(whole[:3])
	if !slices.Equal(whole, before) {
		t.Errorf("the argument became %v", whole)
	}
	got = got[:cap(got)]
	for i := range got {
		got[i] = span(5, 5)
	}
	if !slices.Equal(whole, before) {
		t.Errorf("the argument shares memory: %v", whole)
	}
}
