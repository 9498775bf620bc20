package poset_test

import (
	"slices"
	"testing"

	"coinage/api"
	"coinage/poset"
)

// P6.1: exactly digraphs without a vertex that reaches itself are acyclic.
func TestAcyclic(t *testing.T) {
	each(func(g digraph) {
		if got := poset.Acyclic(g.n, g.a); got != g.acyclic() {
			t.Fatalf("P6.1: Acyclic of %v: %v", g, got)
		}
	})
}

// checkFirst checks that an order is the first one of an acyclic digraph: it has
// all vertices and keeps all arcs, and a lesser vertex that stands later had to
// wait for one that is not before the greater one.
func checkFirst(t *testing.T, g digraph, order []int) {
	t.Helper()
	if ascending := slices.Sorted(slices.Values(order)); !slices.Equal(ascending, members(g.n, 1<<g.n-1)) || !g.allows(order) {
		t.Fatalf("P6.1: Order of %v: %v", g, order)
	}
	for p, v := range order {
		for _, w := range order[p+1:] {
			waits := slices.ContainsFunc(order[p:], func(u int) bool { return g.hasArc(u, w) })
			if w < v && !waits {
				t.Fatalf("P6.1: Order of %v: %v, but %d could stand before %d", g, order, w, v)
			}
		}
	}
}

// P6.1: the first orders, among all permutations of few vertices.
func TestOrderSmall(t *testing.T) {
	check := func(g digraph) {
		want, found := g.order()
		got, e := poset.Order(g.n, g.a)
		if found && (e != api.OK || !slices.Equal(got, want)) || !found && (e != api.ErrCycle || len(got) != 0) {
			t.Fatalf("P6.1: Order of %v: %v %d, want %v", g, got, e, want)
		}
	}
	for n := range 5 {
		all(n, check)
	}
	for _, g := range append(special(), random(3000)...) {
		if g.n <= 6 {
			check(g)
		}
	}
}

// P6.1: orders of up to 24 vertices.
func TestOrderLarge(t *testing.T) {
	each(func(g digraph) {
		got, e := poset.Order(g.n, g.a)
		if e == api.OK {
			checkFirst(t, g, got)
		} else if g.acyclic() || e != api.ErrCycle || len(got) != 0 {
			t.Fatalf("P6.1: Order of %v: %v %d", g, got, e)
		}
	})
	checkOrders(t, "Order", poset.Order, map[string][]int{
		"":                {0, 1, 2, 3, 4},
		"4-0":             {1, 2, 3, 4, 0},
		"1-0 2-1 3-2 4-3": {4, 3, 2, 1, 0},
		"3-1 4-0":         {2, 3, 1, 4, 0},
		"2-0 4-1":         {2, 0, 3, 4, 1},
		"1-0 4-2":         {1, 0, 3, 4, 2},
	})
}

// checkOrders compares what a function returns for digraphs of five vertices.
func checkOrders(t *testing.T, name string, f func(int, []api.Arc) ([]int, api.Errno), cases map[string][]int) {
	t.Helper()
	for text, want := range cases {
		if got, e := f(5, arcs(text)); e != api.OK || !slices.Equal(got, want) {
			t.Errorf("P6.1: %s of %q: %v %d", name, text, got, e)
		}
	}
}

// checkAcyclic compares what a function returns for a digraph with what it is to
// return for an acyclic one, and with ErrCycle for others.
func checkAcyclic[T comparable](t *testing.T, name string, g digraph, f func(int, []api.Arc) ([]T, api.Errno), want func(digraph) []T) {
	t.Helper()
	got, e := f(g.n, g.a)
	if !g.acyclic() {
		if e != api.ErrCycle || len(got) != 0 {
			t.Fatalf("P6.1: %s of %v: %v %d", name, g, got, e)
		}
	} else if e != api.OK || !slices.Equal(got, want(g)) {
		t.Fatalf("P6.1: %s of %v: %v %d", name, g, got, e)
	}
}

// P6.1: levels of acyclic digraphs, and no ones of others.
func TestLevels(t *testing.T) {
	each(func(g digraph) { checkAcyclic(t, "Levels", g, poset.Levels, digraph.levels) })
	checkOrders(t, "Levels", poset.Levels, map[string][]int{
		"":                    {0, 0, 0, 0, 0},
		"0-4 1-2 2-3 3-4":     {0, 0, 1, 2, 3},
		"0-1 0-2 1-3 2-1 3-4": {0, 2, 1, 3, 4},
		"4-0 4-3":             {1, 0, 0, 1, 0},
		"0-2 1-0 4-1":         {2, 1, 3, 0, 0},
	})
}

// P6.3: along every arc the level rises.
func TestLevelsRise(t *testing.T) {
	each(func(g digraph) {
		levels, e := poset.Levels(g.n, g.a)
		for _, arc := range g.a {
			if e == api.OK && levels[arc.From] >= levels[arc.To] {
				t.Fatalf("P6.3: %v has the levels %v", g, levels)
			}
		}
	})
}
