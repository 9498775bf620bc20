package opinion_test

import (
	"math/rand"
	"slices"
	"testing"

	"coinage/api"
	"coinage/opinion"
)

// diff, apply, invert and compose are functions without errors.
func diff(t *testing.T, a, b []api.Entry) []api.Change {
	t.Helper()
	d, e := opinion.Diff(a, b)
	if e != api.OK {
		t.Fatalf("P12.2: Diff(%v, %v): %d", a, b, e)
	}
	return d
}

func apply(t *testing.T, a []api.Entry, c []api.Change) []api.Entry {
	t.Helper()
	b, e := opinion.Apply(a, c)
	if e != api.OK {
		t.Fatalf("P12.3: Apply(%v, %v): %d", a, c, e)
	}
	return b
}

func invert(t *testing.T, c []api.Change) []api.Change {
	t.Helper()
	d, e := opinion.Invert(c)
	if e != api.OK {
		t.Fatalf("P12.3: Invert(%v): %d", c, e)
	}
	return d
}

// sides are all that an attribution can say of the key, with the values 0 to 2.
func sides(key int) [][]api.Entry {
	return [][]api.Entry{nil, {at(key, 0)}, {at(key, 1)}, {at(key, 2)}}
}

// small are all attributions of two keys with the values 0 to 2.
func small() [][]api.Entry {
	var all [][]api.Entry
	for _, x := range sides(-1) {
		for _, y := range sides(1) {
			all = append(all, slices.Concat(x, y))
		}
	}
	return all
}

// smallChanges are all lists of changes of two keys with the values 0 to 2.
func smallChanges() [][]api.Change {
	of := func(key int) [][]api.Change {
		all := [][]api.Change{nil}
		for _, x := range sides(key) {
			for _, y := range sides(key) {
				if d, _ := wantDiff(x, y); len(d) == 1 {
					all = append(all, d)
				}
			}
		}
		return all
	}
	var all [][]api.Change
	for _, x := range of(-1) {
		for _, y := range of(1) {
			all = append(all, slices.Concat(x, y))
		}
	}
	return all
}

// checkDiffLaws checks the laws of differences.
func checkDiffLaws(t *testing.T, a, b []api.Entry) {
	t.Helper()
	d := diff(t, a, b)
	if got := apply(t, a, d); !slices.Equal(got, b) {
		t.Fatalf("P12.2: Apply(%v, %v) is %v, want %v", a, d, got, b)
	}
	if back := diff(t, b, a); !slices.Equal(back, invert(t, d)) {
		t.Fatalf("P12.2: Diff(%v, %v) is %v, and is not the inverse of %v", b, a, back, d)
	}
	if none := diff(t, a, a); len(none) != 0 {
		t.Fatalf("P12.2: Diff(%v, %v) is %v", a, a, none)
	}
	if !opinion.ValidChanges(d) {
		t.Fatalf("P12.2: Diff(%v, %v) is %v, which is not valid", a, b, d)
	}
}

// checkUndone checks that the inverse of changes undoes them; false if they have
// an error.
func checkUndone(t *testing.T, a []api.Entry, c []api.Change) bool {
	t.Helper()
	b, e := opinion.Apply(a, c)
	if e != api.OK {
		return false
	}
	if back := apply(t, b, invert(t, c)); !slices.Equal(back, a) {
		t.Fatalf("P12.3: Invert of %v leads from %v to %v, want %v", c, b, back, a)
	}
	if twice := invert(t, invert(t, c)); !slices.Equal(twice, c) {
		t.Fatalf("P12.3: Invert of Invert of %v is %v", c, twice)
	}
	return true
}

// checkComposed checks that composed changes do what both lists do; false if there
// is an error.
func checkComposed(t *testing.T, a []api.Entry, c, d []api.Change) bool {
	t.Helper()
	both, e := opinion.Compose(c, d)
	b, f := opinion.Apply(a, c)
	if e != api.OK || f != api.OK {
		return false
	}
	x, g := opinion.Apply(b, d)
	y, h := opinion.Apply(a, both)
	if g != h || !slices.Equal(x, y) {
		t.Fatalf("P12.3: %v and then %v lead from %v to %v, %d, but Compose to %v, %d", c, d, a, x, g, y, h)
	}
	return g == api.OK
}

// P12.1, P12.2: all pairs of small attributions.
func TestDiffAll(t *testing.T) {
	for _, a := range small() {
		for _, b := range small() {
			checkDiff(t, a, b)
			checkDiffLaws(t, a, b)
		}
	}
}

// P12.1, P12.3: all small attributions, and all changes of them, one list or two.
func TestApplyAll(t *testing.T) {
	all, undone, composed := smallChanges(), 0, 0
	if len(all) != 169 {
		t.Fatalf("there are %d lists of changes", len(all))
	}
	for _, c := range all {
		checkInvert(t, c)
		for _, a := range small() {
			checkApply(t, a, c)
			if checkUndone(t, a, c) {
				undone++
			}
		}
		for _, d := range all {
			checkCompose(t, c, d)
			for _, a := range small() {
				if checkComposed(t, a, c, d) {
					composed++
				}
			}
		}
	}
	// Each of both keys has 4 sides, and may change to 4 of them, with or without a
	// change to itself, which is none.
	if undone != 16*16 || composed != 16*16*16 {
		t.Errorf("%d changes are undone, and %d are composed", undone, composed)
	}
}

// P12.1, P12.4: all small attributions.
func TestMergeAll(t *testing.T) {
	for _, base := range small() {
		for _, a := range small() {
			for _, b := range small() {
				checkMerge(t, base, a, b)
				checkMergeLaws(t, base, a, b)
			}
		}
	}
}

// checkMergeLaws checks the laws of merging.
func checkMergeLaws(t *testing.T, base, a, b []api.Entry) {
	t.Helper()
	x, keys, e := opinion.Merge(base, a, b)
	y, others, f := opinion.Merge(base, b, a)
	if e != f || !slices.Equal(x, y) || !slices.Equal(keys, others) {
		t.Fatalf("P12.4: Merge(%v, %v, %v) is %v, %v, %d, and %v, %v, %d the other way round", base, a, b, x, keys, e, y, others, f)
	}
	if e == api.OK && (!opinion.Valid(x) || !slices.IsSorted(keys)) {
		t.Fatalf("P12.1: Merge(%v, %v, %v) is %v, %v", base, a, b, x, keys)
	}
	if x, keys, e := opinion.Merge(base, base, b); e != api.OK || !slices.Equal(x, b) || len(keys) != 0 {
		t.Fatalf("P12.4: Merge(%v, %v, %v) is %v, %v, %d", base, base, b, x, keys, e)
	}
	if x, keys, e := opinion.Merge(base, a, a); e != api.OK || !slices.Equal(x, a) || len(keys) != 0 {
		t.Fatalf("P12.4: Merge(%v, %v, %v) is %v, %v, %d", base, a, a, x, keys, e)
	}
}

// P12.2, P12.3, P12.4: random attributions, also with as many entries as there
// can be.
func TestLawsRandom(t *testing.T) {
	source, undone, composed := rand.New(rand.NewSource(3)), 0, 0
	for i := range 6000 {
		keys, count := []int{4, 20, 80, 200}[i%4], []int{5, 30, 80, 90}[i%4]
		base := altered(source, nil, keys, count)
		a, b := altered(source, base, keys, count), altered(source, base, keys, count)
		checkMergeLaws(t, base, a, b)
		if _, e := wantDiff(a, b); e == api.OK {
			checkDiffLaws(t, a, b)
		}
		c := randomChanges(source, a, keys, count)
		if checkUndone(t, a, c) {
			undone++
		}
		if checkComposed(t, a, c, randomChanges(source, modelAfter(a, c).list(), keys, count)) {
			composed++
		}
	}
	if undone < 500 || composed < 500 {
		t.Errorf("only %d changes are undone, and %d are composed", undone, composed)
	}
}
