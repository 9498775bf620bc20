package axis_test

import (
	"fmt"
	"math"
	"math/big"
	"math/rand"
	"slices"
	"testing"

	"coinage/api"
	"coinage/axis"
)

// extremes are integers far from the hours, and those next to them.
var extremes = []int{
	math.MinInt, math.MinInt + 1, math.MinInt + 12, math.MinInt32, -1 << 32, -1000, -144, -25, -13, -12, -11, -1,
	12, 13, 23, 24, 25, 144, 1000, 1 << 32, 1<<32 + 5, math.MaxInt32, math.MaxInt - 12, math.MaxInt - 1, math.MaxInt,
}

// steps counts the steps from an hour to another one, clockwise and the other
// way round at the same time.
func steps(a, b int) int {
	right, left := a, a
	for n := 0; ; n++ {
		if right == b || left == b {
			return n
		}
		right, left = right+1, left-1
		if right == 12 {
			right = 0
		}
		if left == -1 {
			left = 11
		}
	}
}

// hoursOf are the n hours from an hour on, clockwise.
func hoursOf(first, n int) map[int]bool {
	hours := map[int]bool{}
	for h := first; h < first+n; h++ {
		if h < 12 {
			hours[h] = true
		} else {
			hours[h-12] = true
		}
	}
	return hours
}

// inArc counts the elements of l in an arc.
func inArc(l []int, first, n int) int {
	hours, sum := hoursOf(first, n), 0
	for _, h := range l {
		if hours[h] {
			sum++
		}
	}
	return sum
}

// isIn reports whether an arc contains all elements of l.
func isIn(l []int, first, n int) bool { return inArc(l, first, n) == len(l) }

// sumOf is the sum of the distances of all elements of l from an hour.
func sumOf(l []int, hour int) int {
	sum := 0
	for _, h := range l {
		sum += steps(h, hour)
	}
	return sum
}

// countsOf are the counts of l.
func countsOf(l []int) []int {
	counts := make([]int, 12)
	for hour := range counts {
		for _, h := range l {
			if h == hour {
				counts[hour]++
			}
		}
	}
	return counts
}

// pick is the hour with the least value, of several the least one, and the value.
func pick(value func(hour int) int) (int, int) {
	list := make([]int, 12)
	for hour := range list {
		list[hour] = value(hour)
	}
	return slices.Index(list, slices.Min(list)), slices.Min(list)
}

// arcOf is the first hour and the number of hours of the arc of l: all arcs are
// sorted, and the first of them that contains l is taken.
func arcOf(l []int) (int, int) {
	for n := 1; n <= 11; n++ {
		for first := range 12 {
			if isIn(l, first, n) {
				return first, n
			}
		}
	}
	return 0, 12
}

// medianOf is the median of l and its sum.
func medianOf(l []int) (int, int) { return pick(func(hour int) int { return sumOf(l, hour) }) }

// densestOf is the first hour with the most elements of l in the next k hours.
func densestOf(l []int, k int) (int, int) {
	hour, n := pick(func(hour int) int { return -inArc(l, hour, k) })
	return hour, -n
}

// isFixed reports whether some hour is near all elements of l.
func isFixed(l []int, tol int) bool {
	if len(l) == 0 || tol < 0 || tol > 6 {
		return false
	}
	for hour := range 12 {
		near := func(h int) bool { return steps(h, hour) <= tol }
		if !slices.ContainsFunc(l, func(h int) bool { return !near(h) }) {
			return true
		}
	}
	return false
}

// turnedOf is l turned by n, computed with big integers.
func turnedOf(l []int, n int) []int {
	turned := make([]int, len(l))
	for i, h := range l {
		sum := new(big.Int).Add(big.NewInt(int64(h)), big.NewInt(int64(n)))
		turned[i] = int(sum.Mod(sum, big.NewInt(12)).Int64())
	}
	return turned
}

// results are what all functions but Turned say of l, whatever it is.
func results(l []int) string {
	counts, e := axis.Counts(l)
	text := fmt.Sprintln("Counts", counts, int(e))
	hour, n, e := axis.Arc(l)
	text += fmt.Sprintln("Arc", hour, n, int(e))
	hour, n, e = axis.Median(l)
	text += fmt.Sprintln("Median", hour, n, int(e))
	for k := -1; k <= 14; k++ {
		hour, n, e = axis.Densest(l, k)
		text += fmt.Sprintln("Densest", k, hour, n, int(e))
	}
	for tol := -1; tol <= 8; tol++ {
		text += fmt.Sprintln("Fixed", tol, axis.Fixed(l, tol))
	}
	return text
}

// checkList compares all functions of a list of hours with the definitions.
func checkList(t *testing.T, l []int) {
	t.Helper()
	if counts, e := axis.Counts(l); e != api.OK || !slices.Equal(counts, countsOf(l)) {
		t.Fatalf("P10.1: Counts(%v): %v %d, want %v", l, counts, e, countsOf(l))
	}
	if len(l) > 0 {
		hour, n := arcOf(l)
		if first, got, e := axis.Arc(l); e != api.OK || first != hour || got != n {
			t.Fatalf("P10.1: Arc(%v): %d %d %d, want %d %d", l, first, got, e, hour, n)
		}
		hour, n = medianOf(l)
		if median, got, e := axis.Median(l); e != api.OK || median != hour || got != n {
			t.Fatalf("P10.1: Median(%v): %d %d %d, want %d %d", l, median, got, e, hour, n)
		}
	}
	for k := 1; k <= 12; k++ {
		hour, n := densestOf(l, k)
		if first, got, e := axis.Densest(l, k); e != api.OK || first != hour || got != n {
			t.Fatalf("P10.1: Densest(%v, %d): %d %d %d, want %d %d", l, k, first, got, e, hour, n)
		}
	}
	for tol := -2; tol <= 8; tol++ {
		if fixed := axis.Fixed(l, tol); fixed != isFixed(l, tol) {
			t.Fatalf("P10.1: Fixed(%v, %d) = %v", l, tol, fixed)
		}
	}
}

// short calls f with all lists of at most n hours; f may change its list.
func short(n int, f func(l []int)) {
	var extend func(l []int)
	extend = func(l []int) {
		f(slices.Clone(l))
		if len(l) == n {
			return
		}
		for h := range 12 {
			extend(append(slices.Clip(l), h))
		}
	}
	extend(nil)
}

// random makes a list of n hours out of some of the hours, of which one may be
// more frequent than the others.
func random(source *rand.Rand, n int) []int {
	hours := source.Perm(12)[:1+source.Intn(12)]
	if source.Intn(2) == 0 {
		slices.Sort(hours)
		hours = hours[:1+source.Intn(len(hours))]
	}
	l := make([]int, n)
	for i := range l {
		l[i] = hours[source.Intn(len(hours))]
		if source.Intn(3) == 0 {
			l[i] = hours[0]
		}
	}
	return l
}

// sample are random lists of all lengths, and for each set of hours a list in
// which just they occur.
func sample(seed int64) [][]int {
	source := rand.New(rand.NewSource(seed))
	var lists [][]int
	for n := range 65 {
		for range 5 {
			lists = append(lists, random(source, n))
		}
	}
	for set := 1; set < 1<<12; set++ {
		var l []int
		for h := range 12 {
			for range source.Intn(5) + 1 {
				if set>>h&1 == 1 {
					l = append(l, h)
				}
			}
		}
		source.Shuffle(len(l), func(i, j int) { l[i], l[j] = l[j], l[i] })
		lists = append(lists, l)
	}
	return lists
}
