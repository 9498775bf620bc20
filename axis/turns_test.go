package axis_test

import (
	"math"
	"math/rand"
	"slices"
	"testing"

	"coinage/api"
	"coinage/axis"
)

// P10.3: the arc contains all elements, and none with fewer hours does.
func TestShortestArc(t *testing.T) {
	check := func(l []int) {
		if len(l) == 0 {
			return
		}
		first, n, e := axis.Arc(l)
		if e != api.OK || n < 1 || n > 12 || first < 0 || first > 11 || n == 12 && first != 0 || !isIn(l, first, n) {
			t.Fatalf("P10.1: Arc(%v): %d %d %d", l, first, n, e)
		}
		for hour := range 12 {
			if n > 1 && isIn(l, hour, n-1) {
				t.Fatalf("P10.3: Arc(%v): %d %d, but the %d hours from %d on contain it", l, first, n, n-1, hour)
			}
			if hour < first && isIn(l, hour, n) {
				t.Fatalf("P10.1: Arc(%v): %d %d, but the arc from %d on contains it", l, first, n, hour)
			}
		}
	}
	short(4, check)
	for _, l := range sample(4) {
		check(l)
	}
}

// P10.3: the order of the elements changes no result, also where they are not a
// list of hours.
func TestOrder(t *testing.T) {
	source := rand.New(rand.NewSource(5))
	lists := sample(5)
	short(3, func(l []int) { lists = append(lists, l) })
	lists = append(lists, extremes, []int{0, 1, 2, 12}, slices.Repeat([]int{1, 2, 3}, 22), append(make([]int, 64), 12))
	for _, l := range lists {
		want := results(l)
		shuffled := slices.Clone(l)
		for range 3 {
			source.Shuffle(len(l), func(i, j int) { shuffled[i], shuffled[j] = shuffled[j], shuffled[i] })
			if got := results(shuffled); got != want {
				t.Fatalf("P10.3: %v has the results\n%s, and %v\n%s", l, want, shuffled, got)
			}
		}
		slices.Sort(shuffled)
		if got := results(shuffled); got != want {
			t.Fatalf("P10.3: %v has the results\n%s, and sorted\n%s", l, want, got)
		}
	}
}

// numbers are the numbers that turning does not change: those of the hours of
// Arc, the sums of Median, the numbers of Densest, and the results of Fixed.
func numbers(l []int) []int {
	_, hours, _ := axis.Arc(l)
	_, sum, _ := axis.Median(l)
	list := []int{hours, sum}
	for k := 1; k <= 12; k++ {
		_, most, _ := axis.Densest(l, k)
		list = append(list, most)
	}
	for tol := -1; tol <= 7; tol++ {
		fixed := 0
		if axis.Fixed(l, tol) {
			fixed = 1
		}
		list = append(list, fixed)
	}
	return list
}

// checkTurn compares a list with the same list turned by n.
func checkTurn(t *testing.T, l []int, n int) {
	t.Helper()
	turned, e := axis.Turned(l, n)
	if e != api.OK || len(turned) != len(l) {
		t.Fatalf("P10.1: Turned(%v, %d): %v %d", l, n, turned, e)
	}
	if before, after := numbers(l), numbers(turned); !slices.Equal(before, after) {
		t.Fatalf("P10.4: %v has the numbers %v, turned by %d %v", l, before, n, after)
	}
	before, e1 := axis.Counts(l)
	after, e2 := axis.Counts(turned)
	if e1 != api.OK || e2 != api.OK || len(before) != 12 || len(after) != 12 {
		t.Fatalf("P10.1: Counts of %v and %v: %v %d, %v %d", l, turned, before, e1, after, e2)
	}
	for hour, times := range before {
		if to := turnedOf([]int{hour}, n)[0]; after[to] != times {
			t.Fatalf("P10.4: %v has the counts %v, turned by %d %v", l, before, n, after)
		}
	}
}

// P10.4: turning by all numbers of hours, in both directions.
func TestTurns(t *testing.T) {
	source := rand.New(rand.NewSource(6))
	for _, l := range sample(6) {
		checkTurn(t, l, source.Intn(49)-24)
	}
	short(3, func(l []int) { checkTurn(t, l, source.Intn(49)-24) })
	for n := range 65 {
		l := random(source, n)
		for turn := -13; turn <= 13; turn++ {
			checkTurn(t, l, turn)
		}
		for _, turn := range []int{math.MinInt, math.MinInt + 1, math.MaxInt - 1, math.MaxInt} {
			checkTurn(t, l, turn)
		}
	}
}

// P10.5: the elements are within a distance of one hour exactly if they are in an
// arc that reaches as far in both directions.
func TestFixedArcs(t *testing.T) {
	check := func(l []int) {
		if len(l) == 0 {
			return
		}
		_, n, _ := axis.Arc(l)
		for tol := 0; tol <= 6; tol++ {
			inside := false
			for first := range 12 {
				inside = inside || isIn(l, first, min(2*tol+1, 12))
			}
			if got := axis.Fixed(l, tol); got != inside || got != (n <= 2*tol+1) {
				t.Fatalf("P10.5: Fixed(%v, %d) = %v, with an arc of %d hours", l, tol, got, n)
			}
		}
	}
	short(4, check)
	for _, l := range sample(7) {
		check(l)
	}
}
