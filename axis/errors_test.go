package axis_test

import (
	"slices"
	"testing"

	"coinage/api"
	"coinage/axis"
)

// refuse checks that all functions refuse l with the error.
func refuse(t *testing.T, l []int, want api.Errno) {
	t.Helper()
	if got, e := axis.Counts(l); e != want || len(got) != 0 {
		t.Errorf("P10.1: Counts(%v): %v %d, want %d", l, got, e, want)
	}
	if hour, n, e := axis.Arc(l); e != want || hour != 0 || n != 0 {
		t.Errorf("P10.1: Arc(%v): %d %d %d, want %d", l, hour, n, e, want)
	}
	if hour, n, e := axis.Median(l); e != want || hour != 0 || n != 0 {
		t.Errorf("P10.1: Median(%v): %d %d %d, want %d", l, hour, n, e, want)
	}
	// A k outside its limits is named after the errors of the list.
	for _, k := range append([]int{0, 1, 2, 6, 11, 12}, extremes...) {
		if hour, n, e := axis.Densest(l, k); e != want || hour != 0 || n != 0 {
			t.Errorf("P10.1: Densest(%v, %d): %d %d %d, want %d", l, k, hour, n, e, want)
		}
	}
	for _, tol := range append([]int{0, 1, 5, 6, 7}, extremes...) {
		if axis.Fixed(l, tol) {
			t.Errorf("P10.1: Fixed(%v, %d)", l, tol)
		}
	}
	for _, n := range append([]int{0, 1, 11}, extremes...) {
		if got, e := axis.Turned(l, n); e != want || len(got) != 0 {
			t.Errorf("P10.1: Turned(%v, %d): %v %d, want %d", l, n, got, e, want)
		}
	}
}

// P10.1: lists with an element that is not an hour, at any place.
func TestNotHours(t *testing.T) {
	for _, bad := range extremes {
		refuse(t, []int{bad}, api.ErrArg)
		for _, length := range []int{2, 3, 12, 63, 64} {
			for _, place := range []int{0, 1, length / 2, length - 1} {
				l := make([]int, length)
				l[place] = bad
				refuse(t, l, api.ErrArg)
			}
		}
	}
	refuse(t, extremes, api.ErrArg)
}

// P10.1: lists that are too long, also where an element is not an hour.
func TestTooLong(t *testing.T) {
	for _, length := range []int{65, 66, 128, 320, 1000, 100000} {
		l := slices.Repeat([]int{6}, length)
		refuse(t, l, api.ErrFull)
		for _, bad := range []int{-1, 12} {
			for _, place := range []int{0, 63, 64, length - 1} {
				other := slices.Clone(l)
				other[place] = bad
				refuse(t, other, api.ErrFull)
			}
		}
	}
}

// P10.1: the longest lists are accepted.
func TestLongest(t *testing.T) {
	for h := range 12 {
		l := slices.Repeat([]int{h}, 64)
		checkList(t, l)
		if got, e := axis.Turned(l, 12); e != api.OK || !slices.Equal(got, l) {
			t.Errorf("P10.1: Turned(%v, 12): %v %d", l, got, e)
		}
	}
}

// P10.1: what functions say of the list without hours.
func TestEmpty(t *testing.T) {
	for _, l := range [][]int{nil, {}} {
		checkList(t, l)
		if hour, n, e := axis.Arc(l); e != api.ErrNone || hour != 0 || n != 0 {
			t.Errorf("P10.1: Arc of no hours: %d %d %d", hour, n, e)
		}
		if hour, n, e := axis.Median(l); e != api.ErrNone || hour != 0 || n != 0 {
			t.Errorf("P10.1: Median of no hours: %d %d %d", hour, n, e)
		}
		for _, tol := range append([]int{0, 1, 6, 7}, extremes...) {
			if axis.Fixed(l, tol) {
				t.Errorf("P10.1: Fixed of no hours with %d", tol)
			}
		}
	}
}

// P10.1: a number of hours that no arc has.
func TestDensestRange(t *testing.T) {
	for _, l := range [][]int{nil, {0}, {11, 0, 2}, make([]int, 64)} {
		for _, k := range append([]int{0}, extremes...) {
			hour, n, e := axis.Densest(l, k)
			if k == 12 {
				if e != api.OK || hour != 0 || n != len(l) {
					t.Errorf("P10.1: Densest(%v, 12): %d %d %d", l, hour, n, e)
				}
				continue
			}
			if e != api.ErrRange || hour != 0 || n != 0 {
				t.Errorf("P10.1: Densest(%v, %d): %d %d %d", l, k, hour, n, e)
			}
		}
	}
}

// P10.1: no function changes a list or the capacity after it, and no result is
// memory of an argument or of another result.
func TestMemory(t *testing.T) {
	for _, whole := range sample(3) {
		before := slices.Clone(whole)
		l := whole[:len(whole)/2]
		results(l)
		counts, _ := axis.Counts(l)
		turned, _ := axis.Turned(l, 0)
		for _, result := range [][]int{counts, turned} {
			result = result[:cap(result)]
			for i := range result {
				result[i] = -9
			}
		}
		if !slices.Equal(whole, before) {
			t.Fatalf("P10.1: the list %v became %v", before, whole)
		}
		if got, e := axis.Counts(l); e != api.OK || !slices.Equal(got, countsOf(l)) {
			t.Fatalf("P10.1: Counts(%v) after another one: %v %d", l, got, e)
		}
		if got, e := axis.Turned(l, 0); e != api.OK || !slices.Equal(got, l) {
			t.Fatalf("P10.1: Turned(%v, 0) after another one: %v %d", l, got, e)
		}
	}
}
