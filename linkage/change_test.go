package linkage_test

import (
	"math"
	"math/rand"
	"slices"
	"testing"

	"coinage/api"
	"coinage/linkage"
)

// P13.1: a die goes with its last link.
func TestWithout(t *testing.T) {
	for _, c := range []struct {
		g    api.Graph
		id   int
		want api.Graph
	}{
		{example(), 3, graph([]int{1, 3}, []int{2, 4}, links(5, 3, 4, 7, 1, 2))},
		{example(), 5, graph([]int{1}, []int{2, 4}, links(3, 1, 4, 7, 1, 2))},
		{example(), 7, graph([]int{1, 3}, []int{4}, links(3, 1, 4, 5, 3, 4))},
		{graph([]int{5}, []int{5}, links(9, 5, 5)), 9, api.Graph{}},
		{graph([]int{1, 999}, []int{2, 998}, links(1, 999, 2, 9999, 1, 998)), 9999, graph([]int{999}, []int{2}, links(1, 999, 2))},
		{graph([]int{1, 999}, []int{2, 998}, links(1, 999, 2, 9999, 1, 998)), 1, graph([]int{1}, []int{998}, links(9999, 1, 998))},
		{graph([]int{1}, []int{1}, links(1, 1, 1, 2, 1, 1)), 1, graph([]int{1}, []int{1}, links(2, 1, 1))},
		{long(64), 64, long(63)},
		{wide(32), 32, wide(31)},
	} {
		if g, e := linkage.Without(c.g, c.id); e != api.OK || !same(g, c.want) {
			t.Errorf("P13.1: Without(%v, %d): %v %d, want %v", c.g, c.id, g, e, c.want)
		}
	}
}

// P13.1: ErrNone without such a link, ErrArg before that if the graph is not
// valid.
func TestWithoutErrors(t *testing.T) {
	for _, id := range []int{math.MinInt, -1, 0, 1, 2, 4, 6, 8, 9999, 10000, math.MaxInt} {
		for _, g := range []api.Graph{{}, example()} {
			if h, e := linkage.Without(g, id); e != api.ErrNone || !same(h, api.Graph{}) {
				t.Errorf("P13.1: Without(%v, %d): %v %d", g, id, h, e)
			}
		}
	}
	for _, g := range []api.Graph{graph([]int{1}, nil, links(1, 1, 1)), graph(nil, nil, links(1, 1, 1)), graph([]int{1}, []int{1}, nil), wide(33), long(65)} {
		for id := range 70 {
			if h, e := linkage.Without(g, id); e != api.ErrArg || !same(h, api.Graph{}) {
				t.Errorf("P13.1: Without(%v, %d): %v %d", g, id, h, e)
			}
		}
	}
}

// P13.1: a graph of which one link after the other is taken away, in any order,
// stays valid and ends without dies.
func TestWithoutAll(t *testing.T) {
	source := rand.New(rand.NewSource(1))
	for n := range 65 {
		g := randomGraph(source, n)
		for _, k := range shuffled(source, g.Links) {
			if checkWithout(t, g, k.Id) != api.OK {
				t.Fatalf("P13.1: %v has no link %d", g, k.Id)
			}
			g, _ = linkage.Without(g, k.Id)
			if !linkage.Valid(g) || checkWithout(t, g, k.Id) != api.ErrNone {
				t.Fatalf("P13.1: %v after the link %d was taken away", g, k.Id)
			}
		}
		if !same(g, api.Graph{}) {
			t.Fatalf("P13.1: %v without links", g)
		}
	}
}

// P13.1: the dies ascend again, and the links keep their order.
func TestRenamed(t *testing.T) {
	for _, c := range []struct {
		g        api.Graph
		obv, rev []int
		want     api.Graph
	}{
		{api.Graph{}, nil, nil, api.Graph{}},
		{api.Graph{}, []int{}, []int{}, api.Graph{}},
		{example(), []int{1, 3}, []int{2, 4}, example()},
		{example(), []int{3, 1}, []int{2, 4}, graph([]int{1, 3}, []int{2, 4}, links(3, 3, 4, 5, 1, 4, 7, 3, 2))},
		{example(), []int{1, 3}, []int{4, 2}, graph([]int{1, 3}, []int{2, 4}, links(3, 1, 2, 5, 3, 2, 7, 1, 4))},
		{example(), []int{999, 1}, []int{1, 999}, graph([]int{1, 999}, []int{1, 999}, links(3, 999, 999, 5, 1, 999, 7, 999, 1))},
		{example(), []int{3, 4}, []int{4, 3}, graph([]int{3, 4}, []int{3, 4}, links(3, 3, 3, 5, 4, 3, 7, 3, 4))},
		{star(3, 0), []int{7}, []int{30, 10, 20}, graph([]int{7}, []int{10, 20, 30}, links(1, 7, 30, 2, 7, 10, 3, 7, 20))},
		{star(3, 1), []int{30, 10, 20}, []int{7}, graph([]int{10, 20, 30}, []int{7}, links(1, 30, 7, 2, 10, 7, 3, 20, 7))},
	} {
		if g, e := linkage.Renamed(c.g, c.obv, c.rev); e != api.OK || !same(g, c.want) {
			t.Errorf("P13.1: Renamed(%v, %v, %v): %v %d, want %v", c.g, c.obv, c.rev, g, e, c.want)
		}
	}
}

// P13.1: lists that are not names of the dies of the graph, alone and together.
func TestRenamedErrors(t *testing.T) {
	bad := [][]int{nil, {1}, {1, 2, 3}, {1, 1}, {999, 999}, {0, 1}, {1, 0}, {1, 1000}, {1000, 1}, {-1, 1}, {1, math.MinInt}, {math.MaxInt, 1}, make([]int, 1<<16), {5, 6, 6}, {5, 5, 6}}
	good := [][]int{{1, 2}, {2, 1}, {999, 1}, {1, 3}, {2, 4}}
	for _, l := range bad {
		for _, other := range slices.Concat(good, bad) {
			for _, both := range [][2][]int{{l, other}, {other, l}} {
				if g, e := linkage.Renamed(example(), both[0], both[1]); e != api.ErrArg || !same(g, api.Graph{}) {
					t.Errorf("P13.1: Renamed with lists of %d and %d: %v %d", len(both[0]), len(both[1]), g, e)
				}
				checkRenamed(t, example(), both[0], both[1])
			}
		}
	}
	for _, both := range [][2][]int{{{1}, nil}, {nil, {1}}, {{1}, {1}}} {
		if g, e := linkage.Renamed(api.Graph{}, both[0], both[1]); e != api.ErrArg || !same(g, api.Graph{}) {
			t.Errorf("P13.1: Renamed of no dies to %v: %v %d", both, g, e)
		}
	}
	for _, g := range []api.Graph{graph([]int{1, 2}, []int{1}, links(1, 1, 1)), graph([]int{1, 1}, []int{1}, links(1, 1, 1)), graph([]int{2, 1}, []int{3}, links(1, 1, 3, 2, 2, 3))} {
		if h, e := linkage.Renamed(g, []int{5, 6}, []int{7}); e != api.ErrArg || !same(h, api.Graph{}) {
			t.Errorf("P13.1: Renamed(%v): %v %d", g, h, e)
		}
	}
}

// P13.1: all lists of a few numbers for all graphs of a few links.
func TestRenamedAll(t *testing.T) {
	smallGraphs(func(g api.Graph) {
		if len(g.Links) > 3 {
			return
		}
		lists([]int{0, 1, 999}, 2, func(obv []int) {
			lists([]int{1, 2, 1000}, 2, func(rev []int) { checkRenamed(t, g, obv, rev) })
		})
	})
}

// P13.1: random names of random graphs, and names with one defect.
func TestRenamedRandom(t *testing.T) {
	source := rand.New(rand.NewSource(2))
	for n := range 65 {
		for range 20 {
			g := randomGraph(source, n)
			obv, rev := someOf(source, len(g.Obv), 999), someOf(source, len(g.Rev), 999)
			if checkRenamed(t, g, obv, rev) != api.OK {
				t.Fatalf("P13.1: Renamed(%v, %v, %v)", g, obv, rev)
			}
		}
		g := randomGraph(source, n)
		obv, rev := someOf(source, len(g.Obv), 999), someOf(source, len(g.Rev), 999)
		defectsOf(obv, func(l []int) { checkRenamed(t, g, l, rev) })
		defectsOf(rev, func(l []int) { checkRenamed(t, g, obv, l) })
		checkRenamed(t, g, rev, obv)
	}
}
