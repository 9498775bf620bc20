package specimen_test

import (
	"math"
	"math/rand"
	"slices"
	"testing"

	"coinage/api"
	"coinage/specimen"
)

// checkList compares what Check, Sort, Of and Export tell of any list.
func checkList(t *testing.T, l []api.Specimen) {
	t.Helper()
	want := checked(l)
	if e := specimen.Check(l); e != want {
		t.Fatalf("P9.1: Check(%v): %d, want %d", l, e, want)
	}
	var list []api.Specimen
	text := ""
	if want == api.OK {
		list, text = sorted(l), exported(l)
	}
	if got, e := specimen.Sort(l); e != want || !slices.Equal(got, list) {
		t.Fatalf("P9.1: Sort(%v): %v %d, want %d", l, got, e, want)
	}
	if got, e := specimen.Export(l); e != want || got != text {
		t.Fatalf("P9.1: Export(%v): %q %d, want %q %d", l, got, e, text, want)
	}
	if want != api.OK {
		if ids, e := specimen.Of(l, api.Die{Side: 0, Number: 3}); e != want || len(ids) != 0 {
			t.Fatalf("P9.1: Of(%v): %v %d, want %d", l, ids, e, want)
		}
	}
}

// few are specimens for short lists: valid ones, some with the same Id, and ones
// that are not valid.
var few = []api.Specimen{
	example, of(17, 3, 12, 2, 1, 6, 16821), of(4, 3, 12, 2, 1, 6, 16820), of(9999, 999, 1, 9, 1, 0, 1),
	of(17, 3, 12, 0, 1, 6, 16820), of(0, 3, 12, 2, 1, 6, 16820),
}

// lists calls yield with all lists of up to n of the specimens.
func lists(from []api.Specimen, n int, yield func([]api.Specimen)) {
	var longer func([]api.Specimen)
	longer = func(l []api.Specimen) {
		yield(l)
		if len(l) < n {
			for _, s := range from {
				longer(append(slices.Clip(l), s))
			}
		}
	}
	longer(nil)
}

// P9.1: all short lists.
func TestShortLists(t *testing.T) {
	lists(few, 5, func(l []api.Specimen) { checkList(t, l) })
}

// P9.1: the errors of lists, of which the first one that applies is returned.
func TestCheckErrors(t *testing.T) {
	bad := of(17, 3, 12, 2, 1, 12, 16820)
	for _, c := range []struct {
		l    []api.Specimen
		want api.Errno
	}{
		{nil, api.OK}, {[]api.Specimen{}, api.OK}, {[]api.Specimen{example}, api.OK}, {[]api.Specimen{example, example}, api.ErrDup},
		{[]api.Specimen{example, few[1]}, api.ErrDup}, {[]api.Specimen{bad}, api.ErrArg}, {[]api.Specimen{bad, bad}, api.ErrArg},
		{[]api.Specimen{example, example, bad}, api.ErrArg}, {[]api.Specimen{bad, example, example}, api.ErrArg}, {[]api.Specimen{{}}, api.ErrArg},
		{make([]api.Specimen, 64), api.ErrArg}, {make([]api.Specimen, 65), api.ErrFull}, {slices.Repeat([]api.Specimen{example}, 64), api.ErrDup},
		{slices.Repeat([]api.Specimen{example}, 65), api.ErrFull}, {slices.Repeat([]api.Specimen{bad}, 100000), api.ErrFull},
	} {
		if e := specimen.Check(c.l); e != c.want {
			t.Errorf("P9.1: Check of %d specimens: %d, want %d", len(c.l), e, c.want)
		}
		checkList(t, c.l)
	}
}

// P9.1: lists up to the limit and beyond it, also with one specimen that is not
// valid or has the Id of another one, at any place.
func TestLongLists(t *testing.T) {
	source := rand.New(rand.NewSource(1))
	for n := range 70 {
		l := randomList(source, n)
		checkList(t, l)
		for i := range l {
			bad, double := slices.Clone(l), slices.Clone(l)
			field := source.Intn(7)
			*fields(&bad[i])[field] = []int{limits[field][0] - 1, limits[field][1] + 1}[source.Intn(2)]
			checkList(t, bad)
			double[i].Id = l[source.Intn(n)].Id
			checkList(t, double)
			bad[source.Intn(n)].Id = bad[source.Intn(n)].Id
			checkList(t, bad)
		}
	}
}

// P9.1: every order of a list is sorted to the same one.
func TestSortOrders(t *testing.T) {
	source := rand.New(rand.NewSource(2))
	for _, n := range []int{2, 3, 5, 20, 64} {
		l := randomList(source, n)
		want := sorted(l)
		ascending := slices.IsSortedFunc(want, func(a, b api.Specimen) int { return a.Id - b.Id })
		for range 100 {
			source.Shuffle(n, func(i, k int) { l[i], l[k] = l[k], l[i] })
			if got, e := specimen.Sort(l); e != api.OK || !slices.Equal(got, want) || !ascending || len(got) != n {
				t.Fatalf("P9.1: Sort(%v): %v %d", l, got, e)
			}
		}
	}
}

// P9.1: Find takes any list and any Id, and returns the first specimen.
func TestFind(t *testing.T) {
	from := append(slices.Clone(few), api.Specimen{Id: math.MinInt}, api.Specimen{Id: -1, Axis: 70})
	lists(from, 4, func(l []api.Specimen) {
		for _, id := range []int{17, 4, 9999, 0, -1, 1, 18, math.MinInt, math.MaxInt} {
			want, found := api.Specimen{}, false
			for _, s := range slices.Backward(l) {
				if s.Id == id {
					want, found = s, true
				}
			}
			if got, ok := specimen.Find(l, id); ok != found || got != want {
				t.Fatalf("P9.1: Find(%v, %d): %v %v, want %v", l, id, got, ok, want)
			}
		}
	})
	long := make([]api.Specimen, 1000)
	long[999] = example
	if got, ok := specimen.Find(long, 17); !ok || got != example {
		t.Errorf("P9.1: Find in a long list: %v %v", got, ok)
	}
	if got, ok := specimen.Find(long, 18); ok || got != (api.Specimen{}) {
		t.Errorf("P9.1: Find in a long list: %v %v", got, ok)
	}
}

// struckWith lists the Ids of the specimens of a list with a die, ascending.
func struckWith(l []api.Specimen, d api.Die) []int {
	var ids []int
	for _, s := range l {
		if d.Side == 0 && s.Obv == d.Number || d.Side == 1 && s.Rev == d.Number {
			ids = append(ids, s.Id)
		}
	}
	slices.Sort(ids)
	return ids
}

// P9.1: the Ids of all dies in lists with many specimens of a die.
func TestOf(t *testing.T) {
	source := rand.New(rand.NewSource(3))
	for n := range 65 {
		l := randomList(source, n)
		for i := range l {
			l[i].Obv, l[i].Rev = 1+source.Intn(1+n/4), 999-source.Intn(1+n/5)
			if source.Intn(4) == 0 {
				l[i].Rev = l[i].Obv
			}
		}
		for side := range 2 {
			for number := 1; number <= 999; number++ {
				d := api.Die{Side: side, Number: number}
				if ids, e := specimen.Of(l, d); e != api.OK || !slices.Equal(ids, struckWith(l, d)) {
					t.Fatalf("P9.1: Of(%v, %v): %v %d, want %v", l, d, ids, e, struckWith(l, d))
				}
			}
		}
	}
	one := []api.Specimen{example}
	for d, want := range map[api.Die][]int{{Side: 1, Number: 12}: {17}, {Side: 0, Number: 3}: {17}, {Side: 0, Number: 12}: nil, {Side: 1, Number: 3}: nil} {
		if ids, e := specimen.Of(one, d); e != api.OK || !slices.Equal(ids, want) {
			t.Errorf("P9.1: Of(%v): %v %d, want %v", d, ids, e, want)
		}
	}
}

// P9.1: Of refuses dies that are not valid, after lists that are not.
func TestOfErrors(t *testing.T) {
	for _, d := range []api.Die{
		{Side: 0, Number: 0}, {Side: 1, Number: 0}, {Side: 0, Number: 1000}, {Side: 1, Number: 1000}, {Side: -1, Number: 3}, {Side: 2, Number: 12},
		{Side: 0, Number: -3}, {Side: 1, Number: math.MaxInt}, {Side: math.MinInt, Number: math.MinInt}, {Side: math.MaxInt, Number: 12}, {Side: 3, Number: 0},
	} {
		for want, l := range map[api.Errno][]api.Specimen{
			api.ErrArg:  {example},
			api.ErrDup:  {example, example},
			api.ErrFull: make([]api.Specimen, 65),
		} {
			if ids, e := specimen.Of(l, d); e != want || len(ids) != 0 {
				t.Errorf("P9.1: Of(%d specimens, %v): %v %d, want %d", len(l), d, ids, e, want)
			}
		}
		for _, l := range [][]api.Specimen{nil, {{}}, {few[4]}} {
			if ids, e := specimen.Of(l, d); e != api.ErrArg || len(ids) != 0 {
				t.Errorf("P9.1: Of(%v, %v): %v %d", l, d, ids, e)
			}
		}
	}
}

// P9.1: no function changes a list or the capacity after it, and no result is
// memory of an argument or of another result.
func TestListMemory(t *testing.T) {
	source := rand.New(rand.NewSource(4))
	for n := range 65 {
		l := randomList(source, n)
		want := sorted(l)
		unchanged(t, "P9.1", l, func(l []api.Specimen) {
			specimen.Check(l)
			specimen.Find(l, 17)
			specimen.Of(l, api.Die{Side: 1, Number: 12})
			specimen.Export(l)
			one, _ := specimen.Sort(l)
			fill(one)
			if two, e := specimen.Sort(l); e != api.OK || !slices.Equal(two, want) {
				t.Errorf("P9.1: Sort(%v): %v %d", l, two, e)
			}
		})
		unchanged(t, "P9.1", want, func(l []api.Specimen) {
			one, _ := specimen.Sort(l)
			fill(one)
		})
	}
}
