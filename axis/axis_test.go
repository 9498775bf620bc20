package axis_test

import (
	"math"
	"slices"
	"testing"

	"coinage/api"
	"coinage/axis"
)

// P10.1: the distances of all hours, and -1 where one is not an hour.
func TestDistance(t *testing.T) {
	for _, c := range [][3]int{
		{11, 1, 2}, {0, 0, 0}, {0, 1, 1}, {0, 5, 5}, {0, 6, 6}, {0, 7, 5}, {0, 11, 1}, {3, 9, 6}, {2, 9, 5}, {11, 5, 6}, {11, 4, 5}, {10, 1, 3},
		{12, 0, -1}, {0, 12, -1}, {-1, 0, -1}, {11, -1, -1}, {12, 12, -1}, {-1, -1, -1}, {-1, 12, -1},
		{math.MinInt, math.MaxInt, -1}, {math.MaxInt, math.MinInt, -1}, {math.MinInt, math.MinInt, -1}, {math.MinInt, 0, -1}, {6, math.MaxInt, -1},
	} {
		if got := axis.Distance(c[0], c[1]); got != c[2] {
			t.Errorf("P10.1: Distance(%d, %d) = %d, want %d", c[0], c[1], got, c[2])
		}
	}
	for a := range 12 {
		for b := range 12 {
			if got := axis.Distance(a, b); got != steps(a, b) {
				t.Errorf("P10.1: Distance(%d, %d) = %d, want %d", a, b, got, steps(a, b))
			}
		}
		for _, n := range extremes {
			if got, back := axis.Distance(a, n), axis.Distance(n, a); got != -1 || back != -1 {
				t.Errorf("P10.1: Distance of %d and %d: %d, %d", a, n, got, back)
			}
		}
	}
}

// P10.2: the order of the arguments, of any integers, and detours.
func TestDistanceOrder(t *testing.T) {
	list := extremes
	for h := range 12 {
		list = append(list, h)
	}
	for _, a := range list {
		for _, b := range list {
			if got, back := axis.Distance(a, b), axis.Distance(b, a); got != back {
				t.Errorf("P10.2: Distance(%d, %d) = %d, the other way round %d", a, b, got, back)
			}
		}
	}
	for a := range 12 {
		for b := range 12 {
			for c := range 12 {
				if direct, sum := axis.Distance(a, b), axis.Distance(a, c)+axis.Distance(c, b); direct > sum {
					t.Errorf("P10.2: Distance(%d, %d) = %d, by %d %d", a, b, direct, c, sum)
				}
			}
		}
	}
}

// P10.1: Counts of the chapter, of no hours and of many.
func TestCountsCases(t *testing.T) {
	for _, c := range []struct{ l, want []int }{
		{[]int{11, 0, 0}, []int{2, 0, 0, 0, 0, 0, 0, 0, 0, 0, 0, 1}},
		{nil, make([]int, 12)}, {[]int{}, make([]int, 12)},
		{[]int{5, 6, 7, 6, 5, 6}, []int{0, 0, 0, 0, 0, 2, 3, 1, 0, 0, 0, 0}},
		{make([]int, 64), []int{64, 0, 0, 0, 0, 0, 0, 0, 0, 0, 0, 0}},
		{[]int{11, 10, 9, 8, 7, 6, 5, 4, 3, 2, 1, 0}, []int{1, 1, 1, 1, 1, 1, 1, 1, 1, 1, 1, 1}},
	} {
		if got, e := axis.Counts(c.l); e != api.OK || !slices.Equal(got, c.want) {
			t.Errorf("P10.1: Counts(%v): %v %d, want %v", c.l, got, e, c.want)
		}
	}
}

// P10.1: arcs of the chapter, of one hour, of hours that face one another, and
// of all of them.
func TestArcCases(t *testing.T) {
	for _, c := range []struct {
		l        []int
		first, n int
	}{
		{[]int{11, 0, 2}, 11, 4}, {[]int{0, 6}, 0, 7}, {[]int{6, 0}, 0, 7}, {[]int{5, 11}, 5, 7}, {[]int{0}, 0, 1}, {[]int{11, 11, 11}, 11, 1},
		{[]int{11, 0}, 11, 2}, {[]int{10, 11}, 10, 2}, {[]int{0, 4, 8}, 0, 9}, {[]int{0, 3, 6, 9}, 0, 10}, {[]int{1, 4, 7, 10}, 1, 10},
		{[]int{0, 2, 4, 6, 8, 10}, 0, 11}, {[]int{1, 3, 5, 7, 9, 11}, 1, 11}, {[]int{0, 1, 3, 4, 5, 6, 7, 8, 9, 10, 11}, 3, 11},
		{[]int{0, 1, 2, 3, 4, 5, 6, 7, 8, 9, 10}, 0, 11}, {[]int{1, 2, 3, 4, 5, 6, 7, 8, 9, 10, 11}, 1, 11},
		{[]int{0, 1, 2, 3, 4, 5, 6, 7, 8, 9, 11}, 11, 11}, {[]int{1, 2, 4, 5, 7, 8, 10, 11}, 1, 11},
		{[]int{7, 6, 5, 4, 3, 2, 1, 0, 11, 10, 9, 8}, 0, 12}, {[]int{4, 11, 7}, 4, 8}, {[]int{1, 2, 9}, 9, 6},
	} {
		if first, n, e := axis.Arc(c.l); e != api.OK || first != c.first || n != c.n {
			t.Errorf("P10.1: Arc(%v): %d %d %d, want %d %d", c.l, first, n, e, c.first, c.n)
		}
	}
}

// P10.1: medians of the chapter, and of lists for which several hours have the
// least sum.
func TestMedianCases(t *testing.T) {
	for _, c := range []struct {
		l         []int
		hour, sum int
	}{
		{[]int{11, 0, 2}, 0, 3}, {[]int{0}, 0, 0}, {[]int{7, 7}, 7, 0}, {[]int{0, 6}, 0, 6}, {[]int{3, 4}, 3, 1}, {[]int{10, 2}, 0, 4},
		{[]int{11, 10}, 10, 1}, {[]int{11, 0}, 0, 1}, {[]int{8, 10}, 8, 2}, {[]int{1, 5, 9}, 1, 8}, {[]int{5, 5, 11}, 5, 6},
		{[]int{0, 1, 2, 3, 4, 5, 6, 7, 8, 9, 10, 11}, 0, 36}, {slices.Repeat([]int{5}, 64), 5, 0}, {slices.Repeat([]int{5, 11}, 32), 0, 192},
		{[]int{2, 3, 3, 4, 11}, 3, 6},
	} {
		if hour, sum, e := axis.Median(c.l); e != api.OK || hour != c.hour || sum != c.sum {
			t.Errorf("P10.1: Median(%v): %d %d %d, want %d %d", c.l, hour, sum, e, c.hour, c.sum)
		}
	}
}

// P10.1: densest hours of the chapter, of no list, and of lists for which several
// hours are.
func TestDensestCases(t *testing.T) {
	for _, c := range []struct {
		l             []int
		k, hour, most int
	}{
		{[]int{11, 0, 2}, 2, 11, 2}, {[]int{11, 0, 2}, 1, 0, 1}, {[]int{11, 0, 2}, 3, 0, 2}, {[]int{11, 0, 2}, 4, 11, 3}, {[]int{11, 0, 2}, 5, 10, 3},
		{[]int{11, 0, 2}, 11, 2, 3}, {[]int{11, 0, 2}, 12, 0, 3}, {nil, 1, 0, 0}, {[]int{}, 12, 0, 0}, {[]int{5}, 1, 5, 1}, {[]int{5}, 2, 4, 1},
		{[]int{5}, 6, 0, 1}, {[]int{5}, 12, 0, 1}, {[]int{11}, 11, 1, 1}, {[]int{6, 6, 3}, 1, 6, 2}, {[]int{6, 6, 3}, 3, 4, 2}, {[]int{6, 6, 3}, 4, 3, 3},
		{make([]int, 64), 1, 0, 64}, {slices.Repeat([]int{11}, 64), 1, 11, 64}, {slices.Repeat([]int{11}, 64), 2, 10, 64},
	} {
		if hour, most, e := axis.Densest(c.l, c.k); e != api.OK || hour != c.hour || most != c.most {
			t.Errorf("P10.1: Densest(%v, %d): %d %d %d, want %d %d", c.l, c.k, hour, most, e, c.hour, c.most)
		}
	}
}

// P10.1: which lists are fixed, with the least tolerances; an hour that is near
// all elements need not be one of them.
func TestFixedCases(t *testing.T) {
	for _, c := range []struct {
		l     []int
		least int
	}{
		{[]int{5, 6, 7}, 1}, {[]int{5, 7}, 1}, {[]int{5, 6}, 1}, {[]int{6, 6, 6}, 0}, {[]int{0}, 0}, {[]int{11, 1}, 1}, {[]int{0, 6}, 3}, {[]int{11, 5}, 3},
		{[]int{0, 4, 8}, 4}, {[]int{0, 3, 6, 9}, 5}, {[]int{0, 2, 4, 6, 8, 10}, 5}, {[]int{0, 1, 2, 3, 4, 5, 6, 7, 8, 9, 10, 11}, 6},
		{make([]int, 64), 0}, {slices.Repeat([]int{11, 2}, 32), 2},
	} {
		for _, tol := range append([]int{0, 1, 2, 3, 4, 5, 6, 7, 8, 9, 10, 11}, extremes...) {
			if got, want := axis.Fixed(c.l, tol), c.least <= tol && tol <= 6; got != want {
				t.Errorf("P10.1: Fixed(%v, %d) = %v", c.l, tol, got)
			}
		}
	}
}

// P10.1: lists turned by any integer.
func TestTurned(t *testing.T) {
	for _, c := range []struct {
		l    []int
		n    int
		want []int
	}{
		{[]int{11, 0}, 2, []int{1, 2}}, {[]int{11, 0}, -2, []int{9, 10}}, {[]int{11, 0}, 0, []int{11, 0}}, {[]int{11, 0}, 12, []int{11, 0}},
		{[]int{11, 0}, -12, []int{11, 0}}, {[]int{3, 3, 1}, -25, []int{2, 2, 0}}, {[]int{3, 3, 1}, 35, []int{2, 2, 0}}, {nil, 5, nil},
		{[]int{}, math.MinInt, nil}, {[]int{0, 11, 5}, math.MaxInt, []int{7, 6, 0}}, {[]int{0, 11, 5}, math.MinInt, []int{4, 3, 9}},
	} {
		if got, e := axis.Turned(c.l, c.n); e != api.OK || !slices.Equal(got, c.want) {
			t.Errorf("P10.1: Turned(%v, %d): %v %d, want %v", c.l, c.n, got, e, c.want)
		}
	}
	turns := extremes
	for n := -40; n <= 40; n++ {
		turns = append(turns, n)
	}
	for i, l := range sample(1) {
		n := turns[i%len(turns)]
		if got, e := axis.Turned(l, n); e != api.OK || !slices.Equal(got, turnedOf(l, n)) {
			t.Fatalf("P10.1: Turned(%v, %d): %v %d, want %v", l, n, got, e, turnedOf(l, n))
		}
	}
	for h := range 12 {
		for _, n := range turns {
			if got, e := axis.Turned([]int{h}, n); e != api.OK || !slices.Equal(got, turnedOf([]int{h}, n)) {
				t.Errorf("P10.1: Turned(%d, %d): %v %d", h, n, got, e)
			}
		}
	}
}

// P10.1, P10.3: all short lists, and many long ones; no arc with fewer hours
// contains all elements, since the arcs are compared with the shortest ones.
func TestLists(t *testing.T) {
	short(4, func(l []int) { checkList(t, l) })
	for _, l := range sample(2) {
		checkList(t, l)
	}
}
