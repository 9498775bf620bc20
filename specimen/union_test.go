package specimen_test

import (
	"math/rand"
	"slices"
	"testing"

	"coinage/api"
	"coinage/specimen"
)

// checkUnion compares Union of any lists.
func checkUnion(t *testing.T, a, b []api.Specimen) {
	t.Helper()
	want, e := united(a, b)
	if got, gotE := specimen.Union(a, b); gotE != e || !slices.Equal(got, want) {
		t.Fatalf("P9.1: Union(%v, %v): %v %d, want %v %d", a, b, got, gotE, want, e)
	}
}

// P9.1: the unions of all pairs of short lists, with all errors of lists.
func TestUnionShort(t *testing.T) {
	lists(few, 3, func(a []api.Specimen) {
		lists(few, 3, func(b []api.Specimen) { checkUnion(t, a, b) })
	})
}

// P9.1: a list with itself, in any order, is the list.
func TestUnionSame(t *testing.T) {
	source := rand.New(rand.NewSource(1))
	if got, e := specimen.Union([]api.Specimen{example}, []api.Specimen{example}); e != api.OK || !slices.Equal(got, []api.Specimen{example}) {
		t.Errorf("P9.1: Union: %v %d", got, e)
	}
	for n := range 65 {
		l := randomList(source, n)
		other := slices.Clone(l)
		source.Shuffle(n, func(i, k int) { other[i], other[k] = other[k], other[i] })
		if got, e := specimen.Union(l, other); e != api.OK || !slices.Equal(got, sorted(l)) {
			t.Errorf("P9.1: Union(%v, %v): %v %d", l, other, got, e)
		}
		checkUnion(t, l, nil)
		checkUnion(t, nil, l)
	}
}

// P9.1: unions of up to 64 specimens and of more, where the lists have some in
// common, and some of those differ.
func TestUnionLong(t *testing.T) {
	source := rand.New(rand.NewSource(2))
	seen := map[api.Errno]int{}
	for range 5000 {
		all := randomList(source, 60+source.Intn(9))
		from, to := source.Intn(len(all)+1), source.Intn(len(all)+1)
		a, b := slices.Clone(all[:max(from, to)]), slices.Clone(all[min(from, to):])
		if len(b) > 0 && source.Intn(3) == 0 {
			i := 1 + source.Intn(6)
			s := &b[source.Intn(min(len(b), 4))]
			*fields(s)[i] = limits[i][0] + source.Intn(2)
		}
		checkUnion(t, a, b)
		checkUnion(t, b, a)
		_, e := united(a, b)
		seen[e]++
	}
	for _, e := range []api.Errno{api.OK, api.ErrFull, api.ErrConflict} {
		if seen[e] < 100 {
			t.Errorf("P9.1: only %d unions have the error %d", seen[e], e)
		}
	}
}

// P9.1: specimens with the same Id that differ in any one field conflict.
func TestUnionConflict(t *testing.T) {
	source := rand.New(rand.NewSource(3))
	for n := 1; n <= 64; n++ {
		l := randomList(source, n)
		for i := 1; i < 7; i++ {
			other := slices.Clone(l[source.Intn(n):])
			field := fields(&other[source.Intn(len(other))])[i]
			if *field++; *field > limits[i][1] {
				*field -= 2
			}
			for _, pair := range [][2][]api.Specimen{{l, other}, {other, l}} {
				if got, e := specimen.Union(pair[0], pair[1]); e != api.ErrConflict || len(got) != 0 {
					t.Fatalf("P9.1: Union(%v, %v): %v %d", pair[0], pair[1], got, e)
				}
			}
		}
	}
}

// P9.1: the errors of Union, of which the first one that applies is returned.
func TestUnionErrors(t *testing.T) {
	full := make([]api.Specimen, 64)
	for i := range full {
		full[i] = of(i+1, 3, 12, 2, 1, 6, 16820)
	}
	one, more, long := []api.Specimen{few[1]}, []api.Specimen{of(65, 1, 1, 1, 1, 1, 1)}, make([]api.Specimen, 65)
	double, bad := []api.Specimen{example, example}, []api.Specimen{{}}
	for _, c := range []struct {
		a, b []api.Specimen
		want api.Errno
	}{
		{nil, nil, api.OK}, {full, nil, api.OK}, {full, full, api.OK}, {full, []api.Specimen{example}, api.OK},
		{full, more, api.ErrFull}, {more, full, api.ErrFull}, {full, one, api.ErrConflict}, {full, slices.Concat(more, one), api.ErrConflict},
		{slices.Concat(one, more), full, api.ErrConflict}, {full[:63], more, api.OK}, {full[1:], more, api.OK},
		{double, bad, api.ErrDup}, {bad, double, api.ErrArg}, {long, double, api.ErrFull}, {double, long, api.ErrDup}, {bad, long, api.ErrArg},
		{full, long, api.ErrFull}, {one, double, api.ErrDup}, {one, bad, api.ErrArg}, {double, one, api.ErrDup}, {full, double, api.ErrDup}, {nil, bad, api.ErrArg},
	} {
		if got, e := specimen.Union(c.a, c.b); e != c.want || e != api.OK && len(got) != 0 {
			t.Errorf("P9.1: Union of %d and %d specimens: %v %d, want %d", len(c.a), len(c.b), got, e, c.want)
		}
		checkUnion(t, c.a, c.b)
	}
}

// P9.3: neither the order of the lists nor their grouping counts.
func TestUnionOrder(t *testing.T) {
	source := rand.New(rand.NewSource(4))
	for n := range 65 {
		for range 40 {
			all := randomList(source, n)
			var l [3][]api.Specimen
			for i := range l {
				for _, s := range all {
					if source.Intn(3) > 0 {
						l[i] = append(l[i], s)
					}
				}
				source.Shuffle(len(l[i]), func(k, m int) { l[i][k], l[i][m] = l[i][m], l[i][k] })
			}
			want := sorted(l[0], l[1], l[2])
			for _, order := range [][3]int{{0, 1, 2}, {0, 2, 1}, {1, 0, 2}, {1, 2, 0}, {2, 0, 1}, {2, 1, 0}} {
				checkGrouping(t, l[order[0]], l[order[1]], l[order[2]], want)
			}
		}
	}
}

// checkGrouping unites three lists in both groupings.
func checkGrouping(t *testing.T, a, b, c, want []api.Specimen) {
	t.Helper()
	ab, e1 := specimen.Union(a, b)
	left, e2 := specimen.Union(ab, c)
	bc, e3 := specimen.Union(b, c)
	right, e4 := specimen.Union(a, bc)
	if e1 != api.OK || e2 != api.OK || e3 != api.OK || e4 != api.OK {
		t.Fatalf("P9.3: the unions have the errors %d %d %d %d", e1, e2, e3, e4)
	}
	if !slices.Equal(left, want) || !slices.Equal(right, want) {
		t.Fatalf("P9.3: the unions are %v and %v, want %v", left, right, want)
	}
}

// P9.1: Union changes neither list nor the capacity after it, and its result is
// memory of its own.
func TestUnionMemory(t *testing.T) {
	source := rand.New(rand.NewSource(5))
	for n := range 65 {
		all := randomList(source, n)
		for _, first := range [][]api.Specimen{all, all[:n/2], nil} {
			unchanged(t, "P9.1", first, func(a []api.Specimen) {
				unchanged(t, "P9.1", all[n/3:], func(b []api.Specimen) {
					one, _ := specimen.Union(a, b)
					fill(one)
					checkUnion(t, a, b)
				})
			})
		}
	}
}
