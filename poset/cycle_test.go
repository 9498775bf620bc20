package poset_test

import (
	"slices"
	"testing"

	"coinage/api"
	"coinage/poset"
)

// checkCycle compares Cycle with the list that it is to return, nil if none.
func checkCycle(t *testing.T, g digraph, want []int) {
	t.Helper()
	e := api.OK
	if want == nil {
		e = api.ErrNone
	}
	if got, f := poset.Cycle(g.n, g.a); f != e || !slices.Equal(got, want) {
		t.Fatalf("P6.1: Cycle of %v: %v %d, want %v", g, got, f, want)
	}
}

// P6.1: the first of the shortest cycles, or none.
func TestCycle(t *testing.T) {
	each(func(g digraph) {
		if g.acyclic() {
			// To search here takes too long where there are many arcs.
			checkCycle(t, g, nil)
		} else {
			checkCycle(t, g, g.cycle())
		}
	})
}

// P6.1: digraphs whose shortest cycles are to be found among longer ones, among
// others with the same least vertex, or behind vertices that are on none.
func TestCycleCases(t *testing.T) {
	for text, want := range map[string][]int{
		"":                                    nil,
		"0-1 1-2 2-3 3-4 4-5 5-6 6-7 7-8 8-9": nil,
		"0-1 0-2 0-3 1-2 1-3 2-3":             nil,
		"0-1 1-0":                             {0, 1},
		"8-9 9-8":                             {8, 9},
		"0-9 9-0":                             {0, 9},
		// A shorter cycle goes before one with a lesser vertex.
		"0-1 1-2 2-0 3-4 4-3":                     {3, 4},
		"0-1 1-2 2-3 3-4 4-5 5-0 6-7 7-8 8-9 9-6": {6, 7, 8, 9},
		"0-1 1-2 2-3 3-4 4-5 5-6 6-7 7-4":         {4, 5, 6, 7},
		"0-2 1-5 2-3 3-2 4-1 5-4":                 {2, 3},
		// Of several of one length, the one with the least vertex.
		"0-1 1-0 2-3 3-2":                         {0, 1},
		"0-3 1-2 2-1 3-0":                         {0, 3},
		"0-4 1-3 2-1 3-2 4-0":                     {0, 4},
		"0-1 1-2 2-0 2-3 3-1":                     {0, 1, 2},
		"0-9 1-8 2-7 3-6 4-5 5-0 6-1 7-3 8-2 9-4": {0, 9, 4, 5},
		// Of several with the same least vertex, the one whose next vertices are
		// less, if these lead back in time.
		"0-2 1-0 2-1":                             {0, 2, 1},
		"0-3 0-4 1-0 2-0 3-1 4-2":                 {0, 3, 1},
		"0-3 0-4 1-0 2-0 3-2 4-1":                 {0, 3, 2},
		"0-7 0-8 1-0 2-0 3-1 4-2 7-3 7-4 8-3 8-4": {0, 7, 3, 1},
		"0-7 0-8 1-0 2-0 3-1 4-2 7-4 8-3":         {0, 7, 4, 2},
		"0-1 0-2 1-3 1-4 2-3 3-0 4-0":             {0, 1, 3},
		"0-1 0-5 1-2 2-3 3-4 4-0 5-6 6-7 7-8 8-0": {0, 1, 2, 3, 4},
		"0-1 0-5 1-2 2-9 3-4 5-6 6-7 7-8 8-0 9-8": {0, 1, 2, 9, 8},
		"0-1 0-2 1-3 2-4 3-5 4-0 5-6 6-0":         {0, 2, 4},
		// Vertices below the cycle lead to it, or come behind it.
		"0-4 1-2 2-3 3-1":                         {1, 2, 3},
		"0-3 1-3 2-1 3-2":                         {1, 3, 2},
		"0-5 1-6 2-5 3-0 5-1 6-2 6-3":             {1, 6, 2, 5},
		"0-9 1-8 2-7 3-6 4-5 5-9 6-1 7-3 8-2 9-4": {4, 5, 9},
		"0-9 1-8 2-7 3-6 4-5 5-9 6-1 7-3 8-2 9-1": {1, 8, 2, 7, 3, 6},
		"0-9 1-0 2-1 3-2 4-3 5-4 6-5 7-6 8-7 9-8": {0, 9, 8, 7, 6, 5, 4, 3, 2, 1},
	} {
		checkCycle(t, digraph{10, arcs(text)}, want)
	}
	checkCycle(t, digraph{0, nil}, nil)
	checkCycle(t, digraph{1, nil}, nil)
}

// P6.1: long cycles are found too.
func TestCycleLong(t *testing.T) {
	for n := 2; n <= 24; n++ {
		for step := 1; step < n; step++ {
			var want []int
			for i := 0; len(want) == 0 || i != 0; i = (i + step) % n {
				want = append(want, i)
			}
			g := choose(n, func(i, j int) bool { return j == (i+step)%n })
			checkCycle(t, g, want)
		}
	}
}

// P6.3: exactly one of Order and Cycle has no error. What Cycle returns is a
// cycle.
func TestEither(t *testing.T) {
	each(func(g digraph) {
		_, e := poset.Order(g.n, g.a)
		cycle, f := poset.Cycle(g.n, g.a)
		if (e == api.OK) == (f == api.OK) || (e == api.OK) != poset.Acyclic(g.n, g.a) {
			t.Fatalf("P6.3: %v has the errors %d and %d", g, e, f)
		}
		for k, v := range cycle {
			if !g.hasArc(v, cycle[(k+1)%len(cycle)]) {
				t.Fatalf("P6.3: %v has no arcs for the cycle %v", g, cycle)
			}
		}
	})
}
