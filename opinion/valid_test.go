package opinion_test

import (
	"math"
	"slices"
	"testing"

	"coinage/api"
	"coinage/opinion"
)

// checkValid compares Valid with its definition.
func checkValid(t *testing.T, l []api.Entry, want bool) {
	t.Helper()
	if isAttribution(l) != want {
		t.Fatalf("the test itself is wrong for %v", l)
	}
	if x := lend(l); opinion.Valid(x.list) != want || !x.intact() {
		t.Errorf("P12.1: Valid(%v) is not %v", l, want)
	}
}

// checkValidChanges compares ValidChanges with its definition.
func checkValidChanges(t *testing.T, l []api.Change, want bool) {
	t.Helper()
	if isChanges(l) != want {
		t.Fatalf("the test itself is wrong for %v", l)
	}
	if x := lend(l); opinion.ValidChanges(x.list) != want || !x.intact() {
		t.Errorf("P12.1: ValidChanges(%v) is not %v", l, want)
	}
}

// P12.1: the keys of an attribution are strictly ascending, and any values are
// allowed.
func TestValid(t *testing.T) {
	for _, l := range [][]api.Entry{
		nil, {}, {at(0, 0)}, {at(1, 10), at(2, 20)}, {at(-2, 5), at(-1, 5), at(0, 5)},
		{at(math.MinInt, 1), at(math.MaxInt, 1)}, {at(math.MinInt, math.MaxInt), at(-1, math.MinInt), at(math.MaxInt, 0)},
	} {
		checkValid(t, l, true)
	}
	for _, l := range [][]api.Entry{
		{at(1, 10), at(1, 10)}, {at(1, 10), at(1, 11)}, {at(2, 10), at(1, 10)}, {at(1, 1), at(2, 2), at(2, 3)},
		{at(1, 1), at(3, 3), at(2, 2)}, {at(2, 1), at(1, 2), at(3, 3)}, {at(0, 1), at(-1, 1)}, {at(math.MaxInt, 1), at(math.MinInt, 1)},
	} {
		checkValid(t, l, false)
	}
}

// P12.1: at most 64 entries, and at most 64 changes.
func TestValidLimits(t *testing.T) {
	for n := range 130 {
		checkValid(t, entries(-30, n, 7), n <= 64)
		checkValidChanges(t, changes(-30, n, added(0, 7)), n <= 64)
		checkValidChanges(t, changes(-30, n, changed(0, 7, 8)), n <= 64)
	}
	for i := 1; i < 64; i++ {
		l, c := entries(0, 64, 7), changes(0, 64, removed(0, 7))
		l[i].Key, c[i].Key = i-1, i-1
		checkValid(t, l, false)
		checkValidChanges(t, c, false)
	}
	for i := range 64 {
		c := changes(0, 64, removed(0, 7))
		c[i].New = 1
		checkValidChanges(t, c, false)
	}
}

// P12.1: all lists of up to four entries with a few keys.
func TestValidAll(t *testing.T) {
	keys := []int{math.MinInt, -1, 0, 1, math.MaxInt}
	var lists func(l []api.Entry)
	lists = func(l []api.Entry) {
		checkValid(t, l, isAttribution(l))
		if len(l) == 4 {
			return
		}
		for i, key := range keys {
			lists(append(slices.Clone(l), at(key, i%2)))
		}
	}
	lists(nil)
}

// P12.1: all changes of a few values, alone and after or before another one.
func TestValidChangesAll(t *testing.T) {
	values := []int{math.MinInt, -1, 0, 1, 2, math.MaxInt}
	valid := 0
	for _, from := range values {
		for _, to := range values {
			for i := range 4 {
				for _, key := range extremes {
					c := api.Change{Key: key, Old: from, New: to, Had: i%2 == 1, Has: i/2 == 1}
					want := isChange(c)
					if want {
						valid++
					}
					checkValidChanges(t, []api.Change{c}, want)
					checkValidChanges(t, []api.Change{c, added(math.MaxInt, 0)}, want && key < math.MaxInt)
					checkValidChanges(t, []api.Change{removed(math.MinInt, 0), c}, want && key > math.MinInt)
					checkValidChanges(t, []api.Change{c, added(key, 0)}, false)
				}
			}
		}
	}
	if want := len(extremes) * (len(values)*(len(values)-1) + 2*len(values)); valid != want {
		t.Errorf("%d changes are valid, want %d", valid, want)
	}
	checkValidChanges(t, nil, true)
	checkValidChanges(t, []api.Change{}, true)
}

// P12.1: changes that say too much, or nothing.
func TestValidChangesCases(t *testing.T) {
	for _, c := range []api.Change{added(1, 0), removed(1, 0), changed(1, 0, 5), changed(1, 5, 0), added(0, -1), removed(-1, 3)} {
		checkValidChanges(t, []api.Change{c}, true)
	}
	for _, c := range []api.Change{
		{}, {Key: 1}, {Key: 1, Old: 5, New: 5}, {Key: 1, Old: 5, New: 6}, changed(1, 0, 0), changed(1, 5, 5),
		{Key: 1, Old: 5, Has: true}, {Key: 1, Old: 5, New: 6, Has: true}, {Key: 1, New: 5, Had: true}, {Key: 1, Old: 6, New: 5, Had: true},
	} {
		checkValidChanges(t, []api.Change{c}, false)
	}
}

// P12.1: every function names ErrArg for each argument that is not valid, also
// before errors that would come later.
func TestErrArg(t *testing.T) {
	bad := [][]api.Entry{{at(2, 1), at(1, 1)}, {at(1, 1), at(1, 1)}, entries(0, 65, 1), {at(math.MaxInt, 1), at(math.MinInt, 1)}}
	badChanges := [][]api.Change{
		{added(2, 1), added(1, 1)}, {added(1, 1), removed(1, 1)}, changes(0, 65, added(0, 1)), {{}}, {changed(0, 5, 5)}, {{Key: 1, Old: 1, Has: true}}, {{Key: 1, New: 1, Had: true}},
	}
	good := [][]api.Entry{nil, {at(1, 10)}, entries(0, 64, 2), entries(100, 64, 3)}
	goodChanges := [][]api.Change{nil, {added(1, 5)}, {removed(1, 10)}, changes(0, 64, removed(0, 2)), changes(200, 64, added(0, 2))}
	for _, b := range bad {
		for _, g := range slices.Concat(good, bad) {
			_, e := checkDiff(t, b, g)
			_, f := checkDiff(t, g, b)
			_, _, h := checkMerge(t, b, g, good[1])
			_, _, i := checkMerge(t, g, b, good[2])
			_, _, j := checkMerge(t, g, good[3], b)
			if e != api.ErrArg || f != api.ErrArg || h != api.ErrArg || i != api.ErrArg || j != api.ErrArg {
				t.Errorf("P12.1: errors for the arguments %v and %v: %d %d %d %d %d", b, g, e, f, h, i, j)
			}
		}
		for _, c := range slices.Concat(goodChanges, badChanges) {
			if _, e := checkApply(t, b, c); e != api.ErrArg {
				t.Errorf("P12.1: Apply(%v, %v): %d", b, c, e)
			}
		}
	}
	for _, b := range badChanges {
		if _, e := checkInvert(t, b); e != api.ErrArg {
			t.Errorf("P12.1: Invert(%v): %d", b, e)
		}
		for _, g := range good {
			if _, e := checkApply(t, g, b); e != api.ErrArg {
				t.Errorf("P12.1: Apply(%v, %v): %d", g, b, e)
			}
		}
		for _, c := range slices.Concat(goodChanges, badChanges) {
			_, e := checkCompose(t, b, c)
			_, f := checkCompose(t, c, b)
			if e != api.ErrArg || f != api.ErrArg {
				t.Errorf("P12.1: Compose of %v and %v: %d %d", b, c, e, f)
			}
		}
	}
}
