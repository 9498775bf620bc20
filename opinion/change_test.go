package opinion_test

import (
	"math"
	"math/rand"
	"slices"
	"testing"

	"coinage/api"
)

// P12.1: the example of the document, and differences at the ends of all integers.
func TestDiffCases(t *testing.T) {
	a, b := []api.Entry{at(1, 10), at(2, 20)}, []api.Entry{at(2, 21), at(3, 30)}
	if d, _ := checkDiff(t, a, b); !slices.Equal(d, []api.Change{removed(1, 10), changed(2, 20, 21), added(3, 30)}) {
		t.Errorf("P12.1: Diff(%v, %v): %v", a, b, d)
	}
	zero, none := []api.Entry{at(1, 0)}, []api.Entry{}
	if d, _ := checkDiff(t, none, zero); !slices.Equal(d, []api.Change{added(1, 0)}) {
		t.Errorf("P12.1: Diff to a value 0: %v", d)
	}
	if d, _ := checkDiff(t, zero, none); !slices.Equal(d, []api.Change{removed(1, 0)}) {
		t.Errorf("P12.1: Diff from a value 0: %v", d)
	}
	if d, _ := checkDiff(t, zero, []api.Entry{at(1, 7)}); !slices.Equal(d, []api.Change{changed(1, 0, 7)}) {
		t.Errorf("P12.1: Diff of a value 0: %v", d)
	}
	far, near := []api.Entry{at(math.MinInt, 1), at(math.MaxInt, math.MinInt)}, []api.Entry{at(0, 2), at(math.MaxInt, math.MaxInt)}
	if d, _ := checkDiff(t, far, near); !slices.Equal(d, []api.Change{removed(math.MinInt, 1), added(0, 2), changed(math.MaxInt, math.MinInt, math.MaxInt)}) {
		t.Errorf("P12.1: Diff of extreme keys: %v", d)
	}
}

// P12.1: 64 differences are accepted, and 65 are not.
func TestDiffFull(t *testing.T) {
	for n := range 65 {
		for m := range 65 {
			want := api.OK
			if n+m > 64 {
				want = api.ErrFull
			}
			if _, e := checkDiff(t, entries(0, n, 1), entries(n, m, 1)); e != want {
				t.Errorf("P12.1: Diff of %d and %d differences: %d", n, m, e)
			}
		}
	}
	for n := range 65 {
		a, b := entries(0, 64, 1), slices.Concat(entries(0, n, 2), entries(n, 64-n, 1))
		if d, e := checkDiff(t, a, b); e != api.OK || len(d) != n {
			t.Errorf("P12.1: Diff of %d other values: %d", n, e)
		}
	}
}

// P12.1: changes that a does not agree with.
func TestApplyConflict(t *testing.T) {
	a := []api.Entry{at(1, 10), at(2, 0), at(5, 50)}
	for _, c := range [][]api.Change{
		{added(1, 10)}, {added(1, 11)}, {removed(1, 11)}, {changed(1, 11, 10)}, {removed(3, 0)}, {changed(3, 0, 1)}, {added(2, 1)}, {added(2, 0)},
		{removed(1, 10), removed(2, 1)}, {removed(1, 11), removed(2, 0)}, {removed(0, 1), removed(1, 10)}, {removed(5, 50), removed(6, 50)},
	} {
		if _, e := checkApply(t, a, c); e != api.ErrConflict {
			t.Errorf("P12.1: Apply(%v, %v): %d", a, c, e)
		}
	}
	got, e := checkApply(t, a, []api.Change{added(0, 7), removed(1, 10), changed(2, 0, 2), added(3, 0), added(9, 9)})
	if e != api.OK || !slices.Equal(got, []api.Entry{at(0, 7), at(2, 2), at(3, 0), at(5, 50), at(9, 9)}) {
		t.Errorf("P12.1: Apply: %v, %d", got, e)
	}
	if got, e := checkApply(t, a, nil); e != api.OK || !slices.Equal(got, a) {
		t.Errorf("P12.1: Apply without changes: %v, %d", got, e)
	}
}

// P12.1: 64 entries are accepted, and 65 are not; a conflict is named first.
func TestApplyFull(t *testing.T) {
	for n := range 65 {
		for m := range 65 {
			a, c := entries(0, n, 1), changes(n, m, added(0, 1))
			want := api.OK
			if n+m > 64 {
				want = api.ErrFull
			}
			if _, e := checkApply(t, a, c); e != want {
				t.Errorf("P12.1: Apply of %d changes to %d entries: %d", m, n, e)
			}
			// A removed entry makes room for another one, wherever it is.
			if n == 0 || m == 0 {
				continue
			}
			want = api.OK
			if n+m > 66 {
				want = api.ErrFull
			}
			if _, e := checkApply(t, a, slices.Concat([]api.Change{removed(0, 1)}, c[1:])); e != want {
				t.Errorf("P12.1: Apply of %d changes to %d entries, of which one is removed: %d", m, n, e)
			}
			if _, e := checkApply(t, entries(n, m, 1), slices.Concat(changes(0, n-1, added(0, 1)), []api.Change{removed(n+m-1, 1)})); e != want {
				t.Errorf("P12.1: Apply of %d changes before %d entries, of which one is removed: %d", n, m, e)
			}
		}
	}
	c := changes(64, 64, added(0, 1))
	for i := range c {
		d := slices.Clone(c)
		d[i] = removed(d[i].Key, 1)
		if _, e := checkApply(t, entries(0, 64, 1), d); e != api.ErrConflict {
			t.Errorf("P12.1: Apply with a conflict and too many entries: %d", e)
		}
	}
}

// P12.1: Invert exchanges the sides of each change.
func TestInvertCases(t *testing.T) {
	c := []api.Change{added(-5, 0), removed(1, 0), changed(2, 7, 0), added(3, 4), removed(9, math.MinInt)}
	if got, _ := checkInvert(t, c); !slices.Equal(got, []api.Change{removed(-5, 0), added(1, 0), changed(2, 0, 7), removed(3, 4), added(9, math.MinInt)}) {
		t.Errorf("P12.1: Invert(%v): %v", c, got)
	}
	for n := range 65 {
		if _, e := checkInvert(t, changes(0, n, added(0, n))); e != api.OK {
			t.Errorf("P12.1: Invert of %d changes: %d", n, e)
		}
	}
}

// P12.1: changes of one key, one after the other.
func TestComposeCases(t *testing.T) {
	for _, x := range []struct {
		c, d api.Change
		want []api.Change
		e    api.Errno
	}{
		{added(1, 5), removed(1, 5), nil, api.OK},
		{removed(1, 5), added(1, 5), nil, api.OK},
		{changed(1, 5, 6), changed(1, 6, 5), nil, api.OK},
		{added(1, 0), removed(1, 0), nil, api.OK},
		{removed(1, 0), added(1, 0), nil, api.OK},
		{added(1, 5), changed(1, 5, 6), []api.Change{added(1, 6)}, api.OK},
		{added(1, 5), changed(1, 5, 0), []api.Change{added(1, 0)}, api.OK},
		{removed(1, 0), added(1, 5), []api.Change{changed(1, 0, 5)}, api.OK},
		{removed(1, 5), added(1, 0), []api.Change{changed(1, 5, 0)}, api.OK},
		{changed(1, 5, 6), changed(1, 6, 7), []api.Change{changed(1, 5, 7)}, api.OK},
		{changed(1, 0, 6), removed(1, 6), []api.Change{removed(1, 0)}, api.OK},
		{added(1, 5), removed(2, 5), []api.Change{added(1, 5), removed(2, 5)}, api.OK},
		{added(2, 5), removed(1, 5), []api.Change{removed(1, 5), added(2, 5)}, api.OK},
		{added(1, 5), added(1, 5), nil, api.ErrConflict},
		{added(1, 5), added(1, 6), nil, api.ErrConflict},
		{added(1, 5), removed(1, 6), nil, api.ErrConflict},
		{added(1, 0), added(1, 0), nil, api.ErrConflict},
		{removed(1, 0), removed(1, 0), nil, api.ErrConflict},
		{removed(1, 5), changed(1, 0, 5), nil, api.ErrConflict},
		{added(1, 0), added(1, 5), nil, api.ErrConflict},
		{changed(1, 5, 6), changed(1, 5, 6), nil, api.ErrConflict},
		{changed(1, 5, 0), added(1, 6), nil, api.ErrConflict},
	} {
		got, e := checkCompose(t, []api.Change{x.c}, []api.Change{x.d})
		if e != x.e || !slices.Equal(got, x.want) {
			t.Errorf("P12.1: Compose of %v and %v: %v, %d", x.c, x.d, got, e)
		}
	}
}

// P12.1: 64 changes are accepted, and 65 are not; those of one key count once, or
// not at all if they undo one another; a conflict is named first.
func TestComposeFull(t *testing.T) {
	for n := range 65 {
		for m := range 65 {
			c, d := changes(0, n, added(0, 1)), changes(n, m, added(0, 1))
			want := api.OK
			if n+m > 64 {
				want = api.ErrFull
			}
			if _, e := checkCompose(t, c, d); e != want {
				t.Errorf("P12.1: Compose of %d and %d changes: %d", n, m, e)
			}
			if _, e := checkCompose(t, d, c); e != want {
				t.Errorf("P12.1: Compose of %d and %d changes: %d", m, n, e)
			}
			if n == 0 || m == 0 {
				continue
			}
			want = api.OK
			if n-1+m-1 > 64 {
				want = api.ErrFull
			}
			if _, e := checkCompose(t, c, slices.Concat([]api.Change{removed(0, 1)}, d[1:])); e != want {
				t.Errorf("P12.1: Compose of %d and %d changes with one that is undone: %d", n, m, e)
			}
		}
	}
	c := changes(0, 64, added(0, 1))
	if got, e := checkCompose(t, c, changes(0, 64, changed(0, 1, 2))); e != api.OK || !slices.Equal(got, changes(0, 64, added(0, 2))) {
		t.Errorf("P12.1: Compose of changes of the same keys: %v, %d", got, e)
	}
	if got, e := checkCompose(t, c, changes(0, 64, removed(0, 1))); e != api.OK || len(got) != 0 {
		t.Errorf("P12.1: Compose of changes that undo one another: %v, %d", got, e)
	}
	for i := range 64 {
		d := slices.Concat(changes(-63, 63, added(0, 1)), []api.Change{added(i, 1)})
		if _, e := checkCompose(t, c, d); e != api.ErrConflict {
			t.Errorf("P12.1: Compose with a conflict and too many changes: %d", e)
		}
		d = slices.Concat([]api.Change{added(i, 1)}, changes(64, 63, added(0, 1)))
		if _, e := checkCompose(t, c, d); e != api.ErrConflict {
			t.Errorf("P12.1: Compose with a conflict and too many changes: %d", e)
		}
	}
}

// P12.1: random attributions and changes, also with as many as there can be.
func TestChangesRandom(t *testing.T) {
	source := rand.New(rand.NewSource(1))
	diffs, applied, composed := map[api.Errno]int{}, map[api.Errno]int{}, map[api.Errno]int{}
	for i := range 6000 {
		keys, count := []int{4, 20, 500}[i%3], []int{5, 20, 64}[i%3]
		a := randomEntries(source, keys, count)
		b := altered(source, a, keys, count)
		if source.Intn(2) == 0 {
			b = randomEntries(source, keys, count)
		}
		_, e := checkDiff(t, a, b)
		diffs[e]++
		c := randomChanges(source, a, keys, count)
		_, e = checkApply(t, a, c)
		applied[e]++
		checkInvert(t, c)
		d := randomChanges(source, modelAfter(a, c).list(), keys, count)
		_, e = checkCompose(t, c, d)
		composed[e]++
	}
	for name, seen := range map[string]map[api.Errno]int{"Diff": diffs, "Apply": applied, "Compose": composed} {
		if seen[api.OK] < 50 || seen[api.ErrFull] < 50 || name != "Diff" && seen[api.ErrConflict] < 50 {
			t.Errorf("%s has too few of some errors: %v", name, seen)
		}
	}
}

// modelAfter is an attribution after changes, whether it agrees with them or not.
func modelAfter(a []api.Entry, c []api.Change) model {
	m := modelOf(a)
	for _, x := range c {
		delete(m, x.Key)
		if x.Has {
			m[x.Key] = x.New
		}
	}
	return m
}
