package opinion_test

import (
	"math"
	"math/rand"
	"slices"
	"testing"

	"coinage/api"
	"coinage/opinion"
)

// P12.1: the example of the document, and what can be done to one key.
func TestMergeCases(t *testing.T) {
	base := []api.Entry{at(1, 10), at(2, 20)}
	got, keys, _ := checkMerge(t, base, []api.Entry{at(1, 11), at(2, 20)}, []api.Entry{at(1, 12), at(2, 22)})
	if !slices.Equal(got, []api.Entry{at(1, 10), at(2, 22)}) || !slices.Equal(keys, []int{1}) {
		t.Errorf("P12.1: Merge of the example: %v, %v", got, keys)
	}
	zero, five, six, none := []api.Entry{at(1, 0)}, []api.Entry{at(1, 5)}, []api.Entry{at(1, 6)}, []api.Entry(nil)
	for _, x := range []struct {
		base, a, b, want []api.Entry
		conflicts        int
	}{
		{none, five, five, five, 0}, {five, none, none, none, 0}, {five, six, six, six, 0}, {none, none, none, none, 0}, {five, zero, zero, zero, 0}, {none, zero, zero, zero, 0},
		{none, five, none, five, 0}, {none, zero, none, zero, 0}, {five, none, five, none, 0}, {zero, none, zero, none, 0}, {five, six, five, six, 0}, {zero, five, zero, five, 0},
		{none, five, six, none, 1}, {none, zero, five, none, 1}, {five, none, six, five, 1}, {zero, none, five, zero, 1}, {five, none, zero, five, 1}, {zero, five, six, zero, 1},
	} {
		for _, ab := range [][2][]api.Entry{{x.a, x.b}, {x.b, x.a}} {
			got, keys, e := checkMerge(t, x.base, ab[0], ab[1])
			if e != api.OK || !slices.Equal(got, x.want) || len(keys) != x.conflicts || len(keys) == 1 && keys[0] != 1 {
				t.Errorf("P12.1: Merge(%v, %v, %v): %v, %v, %d", x.base, ab[0], ab[1], got, keys, e)
			}
		}
	}
	far, other := []api.Entry{at(math.MinInt, 1), at(math.MaxInt, 1)}, []api.Entry{at(math.MinInt, 2), at(0, 2), at(math.MaxInt, math.MinInt)}
	if got, keys, _ := checkMerge(t, nil, far, other); !slices.Equal(got, []api.Entry{at(0, 2)}) || !slices.Equal(keys, []int{math.MinInt, math.MaxInt}) {
		t.Errorf("P12.1: Merge of extreme keys: %v, %v", got, keys)
	}
}

// P12.1: results of 64 entries are accepted, and those of 65 are not.
func TestMergeFullEntries(t *testing.T) {
	for n := range 65 {
		for m := range 65 {
			want := api.OK
			if n+m > 64 {
				want = api.ErrFull
			}
			if _, _, e := checkMerge(t, nil, entries(0, n, 1), entries(n, m, 1)); e != want {
				t.Errorf("P12.1: Merge of %d and %d entries: %d", n, m, e)
			}
		}
	}
	// What only one of them removes makes room for what the other one adds.
	for n := 1; n <= 64; n++ {
		for x := range 64 - n + 1 {
			for total := 63; total <= 66; total++ {
				y := total - (n - 1) - x
				if y < 0 || y > 65-n {
					continue
				}
				base := entries(0, n, 1)
				a := slices.Concat(base, entries(100, x, 1))
				b := slices.Concat(entries(1, n-1, 1), entries(200, y, 1))
				want := api.OK
				if total > 64 {
					want = api.ErrFull
				}
				if _, _, e := checkMerge(t, base, a, b); e != want {
					t.Errorf("P12.1: Merge of %d entries, of which one is removed, and %d and %d others: %d", n, x, y, e)
				}
			}
		}
	}
}

// conflicting is a base and two attributions with n conflicts, from 0 to 96: at
// most 32 keys are removed in a and changed in b, at most 32 are the other way
// round, and the others are new in both.
func conflicting(n int) (base, a, b []api.Entry) {
	first := min(n, 32)
	second := min(n-first, 32)
	third := n - first - second
	base = entries(0, first+second, 1)
	a = slices.Concat(entries(first, second, 2), entries(64, third, 2))
	b = slices.Concat(entries(0, first, 3), entries(64, third, 3))
	return base, a, b
}

// P12.1: 64 conflicts are accepted, and 65 are not, whatever the result has.
func TestMergeFullConflicts(t *testing.T) {
	for n := range 97 {
		base, a, b := conflicting(n)
		want := api.OK
		if n > 64 {
			want = api.ErrFull
		}
		got, keys, e := checkMerge(t, base, a, b)
		if e != want || e == api.OK && (len(keys) != n || !slices.Equal(got, base)) {
			t.Errorf("P12.1: Merge with %d conflicts: %d", n, e)
		}
		if _, _, f := checkMerge(t, base, b, a); f != want {
			t.Errorf("P12.1: Merge with %d conflicts, the other way round: %d", n, f)
		}
	}
	// 64 new keys with conflicts, and a base that both remove: the result is empty.
	got, keys, e := checkMerge(t, entries(0, 64, 1), entries(64, 64, 2), entries(64, 64, 3))
	if e != api.OK || len(got) != 0 || len(keys) != 64 {
		t.Errorf("P12.1: Merge with 64 conflicts and no entries: %v, %v, %d", got, keys, e)
	}
}

// P12.1: random attributions, also with as many entries as there can be.
func TestMergeRandom(t *testing.T) {
	source, seen, conflicts := rand.New(rand.NewSource(2)), map[api.Errno]int{}, 0
	for i := range 8000 {
		keys, count := []int{4, 20, 90, 500}[i%4], []int{5, 30, 90, 150}[i%4]
		base := altered(source, nil, keys, min(count, 60))
		a, b := altered(source, base, keys, count), altered(source, base, keys, count)
		_, c, e := checkMerge(t, base, a, b)
		seen[e]++
		conflicts += min(len(c), 1)
	}
	if seen[api.OK] < 500 || seen[api.ErrFull] < 300 || conflicts < 500 {
		t.Errorf("too few of some errors, or conflicts: %v, %d", seen, conflicts)
	}
}

// P12.1: the two results of Merge do not share memory with those of another call.
func TestMergeTwice(t *testing.T) {
	base, a, b := conflicting(40)
	got, keys, _ := opinion.Merge(base, a, b)
	again, others, _ := opinion.Merge(base, a, b)
	spoil(again, spoiledEntry)
	spoil(others, -777)
	if want, conflicts, _ := wantMerge(base, a, b); !slices.Equal(got, want) || !slices.Equal(keys, conflicts) {
		t.Errorf("P12.1: results of Merge share memory")
	}
}
