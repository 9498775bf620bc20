package label_test

import (
	"math"
	"slices"
	"testing"

	"coinage/api"
	"coinage/label"
)

// order is how two labels compare: by the first field that differs.
func order(a, b api.Label) int {
	x, y := [3]int{a.Side, a.Number, a.State}, [3]int{b.Side, b.Number, b.State}
	for i := range x {
		if x[i] < y[i] {
			return -1
		}
		if x[i] > y[i] {
			return 1
		}
	}
	return 0
}

// grid lists labels, valid or not, with all combinations of some values.
func grid(values ...int) []api.Label {
	var list []api.Label
	for _, side := range values {
		for _, number := range values {
			for _, state := range values {
				list = append(list, of(side, number, state))
			}
		}
	}
	return list
}

// P5.1, P5.3: Compare by side, number and state, of labels that are valid or
// not, also of such whose differences overflow.
func TestCompare(t *testing.T) {
	list := grid(math.MinInt, -1, 0, 1, 2, 10, math.MaxInt)
	list = append(list, invalid...)
	for _, l := range valid() {
		if l.Number%333 < 2 && l.State%4 < 2 {
			list = append(list, l)
		}
	}
	for _, a := range list {
		for _, b := range list {
			if got := label.Compare(a, b); got != order(a, b) {
				t.Fatalf("P5.1: Compare(%v, %v) = %d", a, b, got)
			}
		}
	}
}

// P5.3: Compare is total: 0 for equal labels only, inverse the other way round,
// and transitive.
func TestCompareTotal(t *testing.T) {
	list := append(grid(math.MinInt, 0, 1, math.MaxInt), invalid...)
	for _, a := range list {
		for _, b := range list {
			ab := label.Compare(a, b)
			if ab < -1 || ab > 1 || (ab == 0) != (a == b) || label.Compare(b, a) != -ab {
				t.Fatalf("P5.3: Compare(%v, %v) = %d, inversely %d", a, b, ab, label.Compare(b, a))
			}
			for _, c := range list {
				if ab <= 0 && label.Compare(b, c) <= 0 && label.Compare(a, c) > 0 {
					t.Fatalf("P5.3: Compare of %v, %v and %v", a, b, c)
				}
			}
		}
	}
}

// P5.1, P5.3: the order of all valid labels, and the example of the chapter.
func TestCompareSorts(t *testing.T) {
	want := valid()
	got := slices.Clone(want)
	slices.Reverse(got)
	slices.SortFunc(got, label.Compare)
	if !slices.Equal(got, want) {
		t.Error("P5.3: the valid labels are not sorted")
	}
	if got := label.Compare(of(0, 12, 0), of(1, 2, 0)); got != -1 {
		t.Errorf("P5.1: Compare = %d", got)
	}
}
