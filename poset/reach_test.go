package poset_test

import (
	"math"
	"slices"
	"testing"

	"coinage/api"
	"coinage/poset"
)

// P6.1: which vertices reach which ones, themselves among them.
func TestReaches(t *testing.T) {
	each(func(g digraph) {
		reach := g.reach()
		for i := range g.n {
			for j := range g.n {
				if got := poset.Reaches(g.n, g.a, i, j); got != reach[i][j] {
					t.Fatalf("P6.1: Reaches of %v, %d and %d: %v", g, i, j, got)
				}
			}
		}
	})
}

// P6.1: numbers that are no vertices reach nothing, and nothing reaches them.
func TestReachesLimits(t *testing.T) {
	for _, g := range special() {
		for _, i := range []int{-1, -2, -64, g.n, g.n + 1, 24, 25, 31, 32, 33, 64, 1 << 32, math.MaxInt, math.MinInt} {
			if i >= 0 && i < g.n {
				continue
			}
			for j := range g.n {
				if poset.Reaches(g.n, g.a, i, j) || poset.Reaches(g.n, g.a, j, i) {
					t.Fatalf("P6.1: in %v, %d and %d are joined", g, i, j)
				}
			}
			if poset.Reaches(g.n, g.a, i, i) {
				t.Fatalf("P6.1: in %v, %d reaches itself", g, i)
			}
		}
	}
}

// P6.4: Reaches is transitive.
func TestReachesTransitive(t *testing.T) {
	check := func(g digraph) {
		for i := range g.n {
			for j := range g.n {
				if !poset.Reaches(g.n, g.a, i, j) {
					continue
				}
				for k := range g.n {
					if poset.Reaches(g.n, g.a, j, k) && !poset.Reaches(g.n, g.a, i, k) {
						t.Fatalf("P6.4: in %v, %d reaches %d, which reaches %d", g, i, j, k)
					}
				}
			}
		}
	}
	for n := range 5 {
		all(n, check)
	}
	for _, g := range append(special(), random(100)...) {
		if g.n <= 16 {
			check(g)
		}
	}
}

// P6.1: closures, also of digraphs with cycles, have all pairs but those of one
// vertex.
func TestClosure(t *testing.T) {
	each(func(g digraph) {
		if got, e := poset.Closure(g.n, g.a); e != api.OK || !slices.Equal(got, g.closure()) {
			t.Fatalf("P6.1: Closure of %v: %v %d", g, got, e)
		}
	})
	for n, text := range map[int]string{2: "0-1 1-0", 3: "0-1 1-2 2-0", 5: "0-4 1-0 2-1 3-2 4-3", 24: ""} {
		a := arcs(text)
		if n == 24 {
			a = ring(24, 7, 3, 23, 0, 9, 1, 2, 22, 5, 4, 6, 8, 21, 10, 20, 11, 19, 12, 18, 13, 17, 14, 16, 15).a
		}
		if got, e := poset.Closure(n, a); e != api.OK || !slices.Equal(got, pairs(n)) {
			t.Errorf("P6.1: Closure of %v: %v %d", a, got, e)
		}
	}
}

// P6.2: the closure of a closure is that closure again.
func TestClosureTwice(t *testing.T) {
	each(func(g digraph) {
		once, _ := poset.Closure(g.n, g.a)
		if twice, e := poset.Closure(g.n, once); e != api.OK || !slices.Equal(twice, once) {
			t.Fatalf("P6.2: %v has the closure %v, and that %v %d", g, once, twice, e)
		}
	})
}

// P6.1: reductions of acyclic digraphs, and no one of others.
func TestReduction(t *testing.T) {
	each(func(g digraph) { checkAcyclic(t, "Reduction", g, poset.Reduction, digraph.reduction) })
	for text, want := range map[string]string{
		"0-1 0-2 1-2":                 "0-1 1-2",
		"0-1 0-2 0-3 1-3 2-3":         "0-1 0-2 1-3 2-3",
		"0-3 1-0 2-1 2-3":             "0-3 1-0 2-1",
		"0-1 0-2 0-3 1-2 1-3 2-3":     "0-1 1-2 2-3",
		"1-0 2-0 2-1 3-0 3-1 3-2":     "1-0 2-1 3-2",
		"0-4 1-4 2-4 3-4":             "0-4 1-4 2-4 3-4",
		"":                            "",
		"0-1 0-4 1-2 2-3 3-4":         "0-1 1-2 2-3 3-4",
		"0-1 0-2 0-3 0-4 1-4 2-4 3-4": "0-1 0-2 0-3 1-4 2-4 3-4",
	} {
		if got, e := poset.Reduction(5, arcs(text)); e != api.OK || !slices.Equal(got, arcs(want)) {
			t.Errorf("P6.1: Reduction of %q: %v %d", text, got, e)
		}
	}
}

// P6.2: a reduction has the closure of its digraph, but not without one of its
// arcs.
func TestReductionLeast(t *testing.T) {
	each(func(g digraph) {
		reduction, e := poset.Reduction(g.n, g.a)
		if e != api.OK {
			return
		}
		closure, _ := poset.Closure(g.n, g.a)
		if got, e := poset.Closure(g.n, reduction); e != api.OK || !slices.Equal(got, closure) {
			t.Fatalf("P6.2: %v has the closure %v, and its reduction %v", g, closure, got)
		}
		for k := range reduction {
			less := slices.Delete(slices.Clone(reduction), k, k+1)
			if got, e := poset.Closure(g.n, less); e != api.OK || slices.Equal(got, closure) {
				t.Fatalf("P6.2: the reduction of %v does not need %v: %d", g, reduction[k], e)
			}
		}
	})
}
