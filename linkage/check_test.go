package linkage_test

import (
	"math"
	"slices"
	"testing"

	"coinage/api"
	"coinage/linkage"
)

// same reports whether two graphs have the same dies and links.
func same(g, h api.Graph) bool {
	return slices.Equal(g.Obv, h.Obv) && slices.Equal(g.Rev, h.Rev) && slices.Equal(g.Links, h.Links)
}

// lent is a list for an argument: it has unused capacity, and no call may change
// either of them.
type lent[T comparable] struct{ list, whole []T }

// lend copies a list into memory with unused capacity.
func lend[T comparable](l []T) lent[T] {
	list := append(make([]T, 0, len(l)+4), l...)
	return lent[T]{list, slices.Clone(list[:cap(list)])}
}

// intact reports whether neither the list nor its unused capacity was changed.
func (l lent[T]) intact() bool { return slices.Equal(l.list[:cap(l.list)], l.whole) }

// lentGraph is a graph for an argument.
type lentGraph struct {
	graph    api.Graph
	obv, rev lent[int]
	links    lent[api.Link]
}

// lendGraph copies a graph into memory with unused capacity.
func lendGraph(g api.Graph) lentGraph {
	obv, rev, links := lend(g.Obv), lend(g.Rev), lend(g.Links)
	return lentGraph{api.Graph{Obv: obv.list, Rev: rev.list, Links: links.list}, obv, rev, links}
}

// intact reports whether a call changed nothing of the graph.
func (g lentGraph) intact() bool { return g.obv.intact() && g.rev.intact() && g.links.intact() }

// spoil overwrites a result and its unused capacity, so that one which shares
// memory with something else changes that.
func spoil[T any](l []T, with T) {
	l = l[:cap(l)]
	for i := range l {
		l[i] = with
	}
}

// spoilLists overwrites each list of a result with another number, and reports
// whether no list changed another one by that.
func spoilLists(lists ...[]int) bool {
	for i, l := range lists {
		spoil(l, -77-i)
	}
	for i, l := range lists {
		for _, n := range l[:cap(l)] {
			if n != -77-i {
				return false
			}
		}
	}
	return true
}

// spoilGraph overwrites a graph, and reports whether its lists share no memory.
func spoilGraph(g api.Graph) bool {
	spoil(g.Links, api.Link{Id: -77, Obv: -78, Rev: -79})
	return spoilLists(g.Obv, g.Rev)
}

// checkOf compares Of with its definition, and returns what it is to return.
func checkOf(t *testing.T, l []api.Specimen) (api.Graph, api.Errno) {
	t.Helper()
	x := lend(l)
	got, e := linkage.Of(x.list)
	want, f := wantOf(l)
	if e != f || !same(got, want) {
		t.Fatalf("P13.1: Of(%v) is %v, %d, want %v, %d", l, got, e, want, f)
	}
	if !spoilGraph(got) || !x.intact() {
		t.Fatalf("P13.1: Of(%v) shares memory", l)
	}
	return want, f
}

// checkLists compares Valid and what Dies, Pairs and Matrix return of a graph with
// their definitions.
func checkLists(t *testing.T, g api.Graph) {
	t.Helper()
	x := lendGraph(g)
	if valid := linkage.Valid(x.graph); valid != isGraph(g) {
		t.Fatalf("P13.1: Valid(%v) is %v", g, valid)
	}
	dies, e1 := linkage.Dies(x.graph)
	if want, e := wantDies(g); e1 != e || !slices.Equal(dies, want) {
		t.Fatalf("P13.1: Dies(%v) is %v, %d, want %v, %d", g, dies, e1, want, e)
	}
	pairs, e2 := linkage.Pairs(x.graph)
	if want, e := wantPairs(g); e2 != e || !slices.Equal(pairs, want) {
		t.Fatalf("P13.1: Pairs(%v) is %v, %d, want %v, %d", g, pairs, e2, want, e)
	}
	rows, e3 := linkage.Matrix(x.graph)
	if want, e := wantMatrix(g); e3 != e || !slices.EqualFunc(rows, want, slices.Equal) {
		t.Fatalf("P13.1: Matrix(%v) is %v, %d, want %v, %d", g, rows, e3, want, e)
	}
	spoil(dies, api.Die{Side: -77, Number: -77})
	spoil(pairs, api.Pair{A: -77, B: -77})
	if !spoilLists(rows...) || !x.intact() {
		t.Fatalf("P13.1: Dies, Pairs or Matrix of %v shares memory", g)
	}
}

// checkDie compares Degree and Partners with their definitions.
func checkDie(t *testing.T, g api.Graph, d api.Die) {
	t.Helper()
	x := lendGraph(g)
	if got, want := linkage.Degree(x.graph, d), wantDegree(g, d); got != want {
		t.Fatalf("P13.1: Degree(%v, %v) is %d, want %d", g, d, got, want)
	}
	got, e := linkage.Partners(x.graph, d)
	if want, f := wantPartners(g, d); e != f || !slices.Equal(got, want) {
		t.Fatalf("P13.1: Partners(%v, %v) is %v, %d, want %v, %d", g, d, got, e, want, f)
	}
	if spoil(got, -77); !x.intact() {
		t.Fatalf("P13.1: Degree or Partners of %v and %v changes an argument", g, d)
	}
}

// checkWithout compares Without with its definition.
func checkWithout(t *testing.T, g api.Graph, id int) api.Errno {
	t.Helper()
	x := lendGraph(g)
	got, e := linkage.Without(x.graph, id)
	if want, f := wantWithout(g, id); e != f || !same(got, want) {
		t.Fatalf("P13.1: Without(%v, %d) is %v, %d, want %v, %d", g, id, got, e, want, f)
	}
	if !spoilGraph(got) || !x.intact() {
		t.Fatalf("P13.1: Without(%v, %d) shares memory", g, id)
	}
	return e
}

// checkRenamed compares Renamed with its definition.
func checkRenamed(t *testing.T, g api.Graph, obv, rev []int) api.Errno {
	t.Helper()
	x, y, z := lendGraph(g), lend(obv), lend(rev)
	got, e := linkage.Renamed(x.graph, y.list, z.list)
	if want, f := wantRenamed(g, obv, rev); e != f || !same(got, want) {
		t.Fatalf("P13.1: Renamed(%v, %v, %v) is %v, %d, want %v, %d", g, obv, rev, got, e, want, f)
	}
	if !spoilGraph(got) || !x.intact() || !y.intact() || !z.intact() {
		t.Fatalf("P13.1: Renamed(%v, %v, %v) shares memory", g, obv, rev)
	}
	return e
}

// around lists numbers that are near some others, at limits, or extreme.
func around(numbers []int) []int {
	all := []int{math.MinInt, -1, 0, 1, 2, 998, 999, 1000, 9999, 10000, math.MaxInt}
	for _, n := range numbers {
		all = append(all, n-1, n, n+1)
	}
	slices.Sort(all)
	return slices.Compact(all)
}

// checkGraph compares all functions of a graph, valid or not, with their
// definitions; Degree and Partners for its dies, such with numbers near theirs,
// and such of other sides, and Without for Ids of links and near ones.
func checkGraph(t *testing.T, g api.Graph) {
	t.Helper()
	checkLists(t, g)
	for _, n := range around(slices.Concat(g.Obv, g.Rev)) {
		checkDie(t, g, api.Die{Side: 0, Number: n})
		checkDie(t, g, api.Die{Side: 1, Number: n})
	}
	for _, side := range []int{math.MinInt, -1, 2, math.MaxInt} {
		for _, k := range g.Links[:min(len(g.Links), 3)] {
			checkDie(t, g, api.Die{Side: side, Number: k.Obv})
			checkDie(t, g, api.Die{Side: side, Number: k.Rev})
		}
		checkDie(t, g, api.Die{Side: side})
	}
	var ids []int
	for _, k := range g.Links {
		ids = append(ids, k.Id)
	}
	for _, id := range around(ids) {
		checkWithout(t, g, id)
	}
	checkRenamed(t, g, g.Obv, g.Rev)
}
