package linkage_test

import (
	"math/rand"
	"slices"
	"testing"

	"coinage/api"
	"coinage/linkage"
)

// eachGraph calls yield with the graphs for which the laws are checked.
func eachGraph(yield func(api.Graph)) {
	source := rand.New(rand.NewSource(1))
	smallGraphs(yield)
	for n := range 65 {
		for range 10 {
			yield(randomGraph(source, n))
		}
	}
	for _, g := range []api.Graph{example(), threefold(), fullGraph(), wide(32), long(64), star(32, 0), star(32, 1)} {
		yield(g)
	}
}

// P13.2: neither the order of the specimens counts, nor their states, axes and
// weights, and the graph is valid.
func TestOrder(t *testing.T) {
	source := rand.New(rand.NewSource(2))
	for n := range 65 {
		for range 20 {
			l := randomCoins(source, n, 1+source.Intn(32), 1+source.Intn(32))
			g, e := linkage.Of(l)
			if e != api.OK || !linkage.Valid(g) {
				t.Fatalf("P13.2: Of(%v): %v %d", l, g, e)
			}
			other := shuffled(source, l)
			if h, e := linkage.Of(other); e != api.OK || !same(g, h) {
				t.Fatalf("P13.2: Of(%v): %v %d, want %v", other, h, e, g)
			}
			for i, s := range other {
				other[i] = coin(s.Id, s.Obv, s.Rev)
			}
			if h, e := linkage.Of(other); e != api.OK || !same(g, h) {
				t.Fatalf("P13.2: Of(%v): %v %d, want %v", other, h, e, g)
			}
		}
	}
}

// P13.2: all orders of the specimens of short lists.
func TestOrderShort(t *testing.T) {
	l := coins(links(3, 1, 4, 5, 3, 4, 7, 1, 2, 9, 3, 4))
	want, _ := linkage.Of(l)
	lists([]int{0, 1, 2, 3}, 4, func(order []int) {
		if sorted := slices.Sorted(slices.Values(order)); !slices.Equal(sorted, []int{0, 1, 2, 3}) {
			return
		}
		other := []api.Specimen{l[order[0]], l[order[1]], l[order[2]], l[order[3]]}
		if g, e := linkage.Of(other); e != api.OK || !same(g, want) {
			t.Errorf("P13.2: Of(%v): %v %d, want %v", other, g, e, want)
		}
	})
}

// P13.2: the errors do not depend on the order either.
func TestOrderErrors(t *testing.T) {
	source := rand.New(rand.NewSource(3))
	for _, l := range [][]api.Specimen{different(33, 33, 1), different(64, 1, 40), {coin(1, 1, 1), coin(2, 1, 1), coin(1, 2, 2), {}}, {coin(1, 1, 1), coin(2, 1, 1), coin(1, 2, 2)}} {
		_, want := linkage.Of(l)
		for range 100 {
			if g, e := linkage.Of(shuffled(source, l)); e != want || e == api.OK || !same(g, api.Graph{}) {
				t.Fatalf("P13.2: Of(%v): %v %d, want %d", l, g, e, want)
			}
		}
	}
}

// P13.2: a graph is the graph of the specimens of its links.
func TestOfGraph(t *testing.T) {
	eachGraph(func(g api.Graph) {
		if h, e := linkage.Of(coins(g.Links)); e != api.OK || !same(g, h) {
			t.Fatalf("P13.2: Of the specimens of %v: %v %d", g, h, e)
		}
	})
}

// P13.3: the sums of the degrees of both sides, and of the Matrix; and the pairs
// with numbers above 0 in it.
func TestSums(t *testing.T) {
	eachGraph(func(g api.Graph) {
		dies, _ := linkage.Dies(g)
		var degrees [2]int
		for _, d := range dies {
			degrees[d.Side] += linkage.Degree(g, d)
		}
		rows, e1 := linkage.Matrix(g)
		pairs, e2 := linkage.Pairs(g)
		sum := 0
		for i, row := range rows {
			for k, n := range row {
				sum += n
				if slices.Contains(pairs, api.Pair{A: g.Obv[i], B: g.Rev[k]}) != (n > 0) {
					t.Fatalf("P13.3: %v has the Matrix %v and the Pairs %v", g, rows, pairs)
				}
			}
		}
		n := len(g.Links)
		if e1 != api.OK || e2 != api.OK || degrees != [2]int{n, n} || sum != n {
			t.Fatalf("P13.3: %v has %v links of the dies of each side and %d in the Matrix", g, degrees, sum)
		}
	})
}

// P13.4: the partners of a die have it as a partner.
func TestMutual(t *testing.T) {
	eachGraph(func(g api.Graph) {
		dies, _ := linkage.Dies(g)
		for _, d := range dies {
			partners, e := linkage.Partners(g, d)
			if e != api.OK || len(partners) == 0 {
				t.Fatalf("P13.4: Partners(%v, %v): %v %d", g, d, partners, e)
			}
			for _, n := range partners {
				back, e := linkage.Partners(g, api.Die{Side: 1 - d.Side, Number: n})
				if e != api.OK || !slices.Contains(back, d.Number) {
					t.Fatalf("P13.4: %v has the partner %d in %v, which has %v %d", d, n, g, back, e)
				}
			}
		}
	})
}

// P13.5: the numbers that the dies have change nothing.
func TestRenamedSame(t *testing.T) {
	eachGraph(func(g api.Graph) {
		if h, e := linkage.Renamed(g, g.Obv, g.Rev); e != api.OK || !same(g, h) {
			t.Fatalf("P13.5: Renamed(%v): %v %d", g, h, e)
		}
	})
}

// P13.5: a die has its links under its new number too, and any two dies as many
// between them. With the old numbers the graph is as it was.
func TestRenamedKeeps(t *testing.T) {
	source := rand.New(rand.NewSource(4))
	eachGraph(func(g api.Graph) {
		obv, rev := someOf(source, len(g.Obv), 999), someOf(source, len(g.Rev), 999)
		h, e := linkage.Renamed(g, obv, rev)
		if e != api.OK || !linkage.Valid(h) {
			t.Fatalf("P13.5: Renamed(%v, %v, %v): %v %d", g, obv, rev, h, e)
		}
		before, _ := linkage.Matrix(g)
		after, _ := linkage.Matrix(h)
		for i, o := range obv {
			if linkage.Degree(g, obverse(g.Obv[i])) != linkage.Degree(h, obverse(o)) {
				t.Fatalf("P13.5: the obverse %d of %v has another degree in %v", g.Obv[i], g, h)
			}
			for k, r := range rev {
				if before[i][k] != after[slices.Index(h.Obv, o)][slices.Index(h.Rev, r)] {
					t.Fatalf("P13.5: the Matrix %v of %v is %v in %v", before, g, after, h)
				}
			}
		}
		for k, r := range rev {
			if linkage.Degree(g, reverse(g.Rev[k])) != linkage.Degree(h, reverse(r)) {
				t.Fatalf("P13.5: the reverse %d of %v has another degree in %v", g.Rev[k], g, h)
			}
		}
		back, e := linkage.Renamed(h, oldNames(g.Obv, obv, h.Obv), oldNames(g.Rev, rev, h.Rev))
		if e != api.OK || !same(g, back) {
			t.Fatalf("P13.5: Renamed(%v) back to %v: %v %d", h, g, back, e)
		}
	})
}

// oldNames lists the numbers that dies had before they got new ones, in the order
// of the list sorted of the new ones.
func oldNames(old, renamed, sorted []int) []int {
	var list []int
	for _, n := range sorted {
		list = append(list, old[slices.Index(renamed, n)])
	}
	return list
}
