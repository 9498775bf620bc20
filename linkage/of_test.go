package linkage_test

import (
	"math"
	"math/rand"
	"slices"
	"testing"

	"coinage/api"
	"coinage/linkage"
)

// checkFail asks Of for an error.
func checkFail(t *testing.T, what string, l []api.Specimen, want api.Errno) {
	t.Helper()
	if g, e := linkage.Of(l); e != want || !same(g, api.Graph{}) {
		t.Errorf("P13.1: Of %s: %v %d, want %d", what, g, e, want)
	}
	checkOf(t, l)
}

// different is a corpus list of n specimens of obv and rev different dies.
func different(n, obv, rev int) []api.Specimen {
	var l []api.Specimen
	for i := range n {
		l = append(l, coin(n-i, 999-i%obv, 1+i%rev))
	}
	return l
}

// P13.1: the example of the chapter, and the shortest lists.
func TestOfCases(t *testing.T) {
	for _, c := range []struct {
		l    []api.Specimen
		want api.Graph
	}{
		{nil, api.Graph{}},
		{[]api.Specimen{}, api.Graph{}},
		{[]api.Specimen{coin(7, 1, 2), coin(3, 1, 4), coin(5, 3, 4)}, example()},
		{[]api.Specimen{coin(9999, 999, 1)}, api.Graph{Obv: []int{999}, Rev: []int{1}, Links: links(9999, 999, 1)}},
		{[]api.Specimen{coin(2, 5, 5), coin(1, 5, 5)}, api.Graph{Obv: []int{5}, Rev: []int{5}, Links: links(1, 5, 5, 2, 5, 5)}},
		{[]api.Specimen{coin(10, 9, 10), coin(9, 10, 9)}, api.Graph{Obv: []int{9, 10}, Rev: []int{9, 10}, Links: links(9, 10, 9, 10, 9, 10)}},
		{[]api.Specimen{{Id: 17, Obv: 3, Rev: 12, ObvState: 2, RevState: 1, Axis: 6, Weight: 16820}}, api.Graph{Obv: []int{3}, Rev: []int{12}, Links: links(17, 3, 12)}},
	} {
		if g, e := linkage.Of(c.l); e != api.OK || !same(g, c.want) {
			t.Errorf("P13.1: Of(%v): %v %d, want %v", c.l, g, e, c.want)
		}
		checkOf(t, c.l)
	}
}

// P13.1: all lists of up to four of a few specimens, some of them with the same
// Id, and some not valid.
func TestOfShort(t *testing.T) {
	few := []api.Specimen{coin(1, 1, 1), coin(2, 1, 999), coin(2, 999, 1), coin(9999, 999, 999), coin(3, 2, 1), coin(4, 1, 1000), {}}
	lists(few, 4, func(l []api.Specimen) { checkOf(t, l) })
}

// P13.1: a list that specimen.Check refuses has its error, whatever its dies are.
func TestOfErrors(t *testing.T) {
	for _, c := range []struct {
		what string
		l    []api.Specimen
		want api.Errno
	}{
		{"65 specimens", different(65, 1, 1), api.ErrFull},
		{"65 specimens of many dies", different(65, 40, 40), api.ErrFull},
		{"65 specimens that are not valid", make([]api.Specimen, 65), api.ErrFull},
		{"65 specimens with one Id", slices.Repeat(different(1, 1, 1), 65), api.ErrFull},
		{"many specimens", make([]api.Specimen, 1<<16), api.ErrFull},
		{"a zero specimen", make([]api.Specimen, 1), api.ErrArg},
		{"64 specimens that are not valid", make([]api.Specimen, 64), api.ErrArg},
		{"two specimens with one Id", []api.Specimen{coin(4, 1, 2), coin(4, 3, 4)}, api.ErrDup},
		{"equal specimens", []api.Specimen{coin(4, 1, 2), coin(4, 1, 2)}, api.ErrDup},
		{"a zero specimen after equal ones", []api.Specimen{coin(4, 1, 2), coin(4, 1, 2), {}}, api.ErrArg},
		{"a zero specimen after many dies", append(different(60, 33, 33), api.Specimen{}), api.ErrArg},
		{"equal specimens after many dies", append(different(60, 33, 33), coin(60, 999, 1)), api.ErrDup},
	} {
		checkFail(t, c.what, c.l, c.want)
	}
}

// P13.1: each field of a specimen has its limits.
func TestOfFields(t *testing.T) {
	for _, value := range []int{math.MinInt, -1, 0, 1, 9, 10, 11, 12, 999, 1000, 9999, 10000, 200000, 200001, math.MaxInt} {
		for i := range 7 {
			x := coin(5, 6, 7)
			*[]*int{&x.Id, &x.Obv, &x.Rev, &x.ObvState, &x.RevState, &x.Axis, &x.Weight}[i] = value
			want := api.ErrArg
			if isSpecimen(x) {
				want = api.OK
			}
			if _, e := linkage.Of([]api.Specimen{coin(4, 1, 1), x}); e != want {
				t.Errorf("P13.1: Of with %v: %d, want %d", x, e, want)
			}
			checkOf(t, []api.Specimen{x})
			checkOf(t, []api.Specimen{coin(4, 1, 1), x})
		}
	}
}

// P13.1: at most 32 dies of each side.
func TestOfFull(t *testing.T) {
	for obv := 30; obv <= 64; obv++ {
		for rev := 30; rev <= 64; rev++ {
			want := api.OK
			if obv > 32 || rev > 32 {
				want = api.ErrFull
			}
			l := different(64, obv, rev)
			if g, e := linkage.Of(l); e != want || e == api.OK && (len(g.Obv) != obv || len(g.Rev) != rev || len(g.Links) != 64) {
				t.Errorf("P13.1: Of %d and %d dies: %d, want %d", obv, rev, e, want)
			}
			checkOf(t, l)
		}
	}
	checkFail(t, "33 obverse dies", different(33, 33, 1), api.ErrFull)
	checkFail(t, "33 reverse dies", different(33, 1, 33), api.ErrFull)
	checkFail(t, "33 dies of each side", different(33, 33, 33), api.ErrFull)
}

// P13.1, P13.2: random lists of all lengths, whose graphs are valid.
func TestOfRandom(t *testing.T) {
	source := rand.New(rand.NewSource(1))
	seen := map[api.Errno]int{}
	for n := range 66 {
		for range 60 {
			l := randomCoins(source, n, 1+source.Intn(50), 1+source.Intn(50))
			g, e := checkOf(t, l)
			seen[e]++
			if e == api.OK && !linkage.Valid(g) {
				t.Fatalf("P13.2: Of(%v) is not valid: %v", l, g)
			}
		}
	}
	if seen[api.OK] < 1000 || seen[api.ErrFull] < 100 {
		t.Errorf("the lists of the test have the errors %v", seen)
	}
}
