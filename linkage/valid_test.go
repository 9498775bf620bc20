package linkage_test

import (
	"math"
	"math/rand"
	"slices"
	"testing"

	"coinage/api"
	"coinage/linkage"
)

// checkValid compares Valid with what it is to return, and all other functions
// with their definitions.
func checkValid(t *testing.T, g api.Graph, want bool) {
	t.Helper()
	if isGraph(g) != want {
		t.Fatalf("the test itself is wrong for %v", g)
	}
	if linkage.Valid(g) != want {
		t.Errorf("P13.1: Valid(%v) is not %v", g, want)
	}
	checkGraph(t, g)
}

// graph makes a graph.
func graph(obv, rev []int, l []api.Link) api.Graph { return api.Graph{Obv: obv, Rev: rev, Links: l} }

// P13.1: graphs that are valid.
func TestValid(t *testing.T) {
	for _, g := range []api.Graph{
		{}, graph([]int{}, []int{}, []api.Link{}), example(), fullGraph(),
		graph([]int{1}, []int{1}, links(1, 1, 1)), graph([]int{999}, []int{999}, links(9999, 999, 999)),
		graph([]int{1}, []int{999}, links(1, 1, 999, 2, 1, 999, 9999, 1, 999)), graph([]int{2, 10}, []int{7}, links(1, 10, 7, 2, 2, 7)),
	} {
		checkValid(t, g, true)
	}
}

// P13.1: graphs that are not valid, each for one reason.
func TestNotValid(t *testing.T) {
	one, two := []int{1}, []int{1, 2}
	for what, g := range map[string]api.Graph{
		"dies without links":         graph(one, one, nil),
		"an obverse die alone":       graph(one, nil, nil),
		"a reverse die alone":        graph(nil, one, nil),
		"a link without dies":        graph(nil, nil, links(1, 1, 1)),
		"no obverse die":             graph(nil, one, links(1, 1, 1)),
		"no reverse die":             graph(one, nil, links(1, 1, 1)),
		"another obverse die":        graph([]int{2}, one, links(1, 1, 1)),
		"another reverse die":        graph(one, []int{2}, links(1, 1, 1)),
		"an obverse without a link":  graph(two, one, links(1, 1, 1)),
		"a reverse without a link":   graph(one, two, links(1, 1, 1)),
		"a link without its obverse": graph(one, one, links(1, 1, 1, 2, 2, 1)),
		"a link without its reverse": graph(one, one, links(1, 1, 1, 2, 1, 2)),
		"descending obverses":        graph([]int{2, 1}, one, links(1, 1, 1, 2, 2, 1)),
		"descending reverses":        graph(one, []int{2, 1}, links(1, 1, 1, 2, 1, 2)),
		"equal obverses":             graph([]int{1, 1}, one, links(1, 1, 1, 2, 1, 1)),
		"equal reverses":             graph(one, []int{1, 1}, links(1, 1, 1, 2, 1, 1)),
		"descending Ids":             graph(one, one, links(2, 1, 1, 1, 1, 1)),
		"equal Ids":                  graph(one, two, links(1, 1, 1, 1, 1, 2)),
		"equal links":                graph(one, one, links(1, 1, 1, 1, 1, 1)),
		"the Id 0":                   graph(one, one, links(0, 1, 1)),
		"the Id -1":                  graph(one, one, links(-1, 1, 1, 1, 1, 1)),
		"the Id 10000":               graph(one, one, links(1, 1, 1, 10000, 1, 1)),
		"the obverse 0":              graph([]int{0}, one, links(1, 0, 1)),
		"the reverse 0":              graph(one, []int{0}, links(1, 1, 0)),
		"the obverse 1000":           graph([]int{1, 1000}, one, links(1, 1, 1, 2, 1000, 1)),
		"the reverse 1000":           graph(one, []int{1, 1000}, links(1, 1, 1, 2, 1, 1000)),
		"the obverse -5":             graph([]int{-5, 1}, one, links(1, 1, 1, 2, -5, 1)),
		"the reverse -5":             graph(one, []int{-5, 1}, links(1, 1, 1, 2, 1, -5)),
		"sides exchanged":            graph(two, one, links(1, 1, 1, 2, 1, 2)),
	} {
		t.Run(what, func(t *testing.T) { checkValid(t, g, false) })
	}
}

// P13.1: all graphs of up to two dies of a side and two links, some with numbers
// beyond the limits.
func TestValidAll(t *testing.T) {
	var all []api.Link
	for _, id := range []int{0, 1, 2} {
		for _, obv := range []int{1, 2, 1000} {
			for _, rev := range []int{0, 1, 2} {
				all = append(all, api.Link{Id: id, Obv: obv, Rev: rev})
			}
		}
	}
	valid := 0
	lists([]int{1, 2, 1000}, 2, func(obv []int) {
		lists([]int{0, 1, 2}, 2, func(rev []int) {
			lists(all, 2, func(l []api.Link) {
				g := graph(obv, rev, l)
				checkLists(t, g)
				if isGraph(g) {
					valid++
				}
			})
		})
	})
	// The graph without dies, one link with the Id 1 or 2, and two of any dies.
	if want := 1 + 2*4 + 4*4; valid != want {
		t.Errorf("%d graphs are valid, want %d", valid, want)
	}
}

// P13.1: all valid graphs of a few dies and links.
func TestSmallGraphs(t *testing.T) {
	smallGraphs(func(g api.Graph) { checkGraph(t, g) })
}

// P13.1: random valid graphs of all numbers of links.
func TestRandomGraphs(t *testing.T) {
	source := rand.New(rand.NewSource(1))
	for n := range 65 {
		for range 4 {
			checkValid(t, randomGraph(source, n), true)
		}
	}
}

// wide is a graph with n links of different dies.
func wide(n int) api.Graph {
	var l []api.Link
	for i := range n {
		l = append(l, api.Link{Id: i + 1, Obv: i + 1, Rev: i + 1})
	}
	return made(l)
}

// long is a graph with n links between two dies.
func long(n int) api.Graph {
	var l []api.Link
	for i := range n {
		l = append(l, api.Link{Id: i + 1, Obv: 1, Rev: 1})
	}
	return made(l)
}

// star is a graph with n links between one die of a side and n of the other one.
func star(n, side int) api.Graph {
	g := wide(n)
	for i := range g.Links {
		*[]*int{&g.Links[i].Obv, &g.Links[i].Rev}[side] = 1
	}
	return made(g.Links)
}

// P13.1: at most 32 dies of each side, and at most 64 links.
func TestValidLimits(t *testing.T) {
	for n := range 70 {
		checkValid(t, wide(n), n <= 32)
		checkValid(t, star(n, 0), n <= 32)
		checkValid(t, star(n, 1), n <= 32)
		checkValid(t, long(n), n <= 64)
	}
	for _, g := range []api.Graph{wide(5000), long(5000)} {
		checkLists(t, g)
	}
	many := make([]int, 1<<20)
	checkLists(t, graph(many, nil, nil))
	checkLists(t, graph(nil, many, nil))
	checkLists(t, graph(nil, nil, make([]api.Link, 1<<20)))
}

// defects calls yield with graphs in which one number is another one, one element
// is missing, or is there twice, or two elements are exchanged.
func defects(g api.Graph, yield func(api.Graph)) {
	copied := func() api.Graph {
		return graph(slices.Clone(g.Obv), slices.Clone(g.Rev), slices.Clone(g.Links))
	}
	for i := range g.Links {
		for field := range 3 {
			fields := func(k *api.Link) *int { return []*int{&k.Id, &k.Obv, &k.Rev}[field] }
			n := *fields(&g.Links[i])
			for _, x := range []int{math.MinInt, -1, 0, 1, n - 1, n + 1, 999, 1000, 9999, 10000, math.MaxInt} {
				h := copied()
				*fields(&h.Links[i]) = x
				yield(h)
			}
		}
		h := copied()
		h.Links = slices.Delete(h.Links, i, i+1)
		yield(h)
		h = copied()
		h.Links = slices.Insert(h.Links, i, h.Links[i])
		yield(h)
		h = copied()
		h.Links[i], h.Links[0] = h.Links[0], h.Links[i]
		yield(h)
	}
	for side, l := range [][]int{g.Obv, g.Rev} {
		defectsOf(l, func(other []int) {
			h := copied()
			*[]*[]int{&h.Obv, &h.Rev}[side] = other
			yield(h)
		})
	}
}

// defectsOf calls yield with lists in which one number is another one, is missing
// or there twice, or two numbers are exchanged.
func defectsOf(l []int, yield func([]int)) {
	for i, n := range l {
		for _, x := range []int{math.MinInt, -1, 0, 1, n - 1, n + 1, 999, 1000, math.MaxInt} {
			other := slices.Clone(l)
			other[i] = x
			yield(other)
			yield(slices.Insert(slices.Clone(l), i, x))
			yield(append(slices.Clone(l), x))
		}
		yield(slices.Delete(slices.Clone(l), i, i+1))
		yield(slices.Insert(slices.Clone(l), i, n))
		other := slices.Clone(l)
		other[i], other[0] = other[0], other[i]
		yield(other)
	}
}

// P13.1: graphs that differ at one place from valid ones. All functions have
// ErrArg for those that are not valid.
func TestDefects(t *testing.T) {
	source := rand.New(rand.NewSource(2))
	seen := map[bool]int{}
	check := func(g api.Graph) {
		checkLists(t, g)
		seen[isGraph(g)]++
		d, id, rename := api.Die{}, 0, checkRenamed(t, g, g.Obv, g.Rev)
		if len(g.Links) > 0 {
			k := g.Links[source.Intn(len(g.Links))]
			d, id = api.Die{Number: k.Obv}, k.Id
		}
		checkDie(t, g, d)
		without := checkWithout(t, g, id)
		if _, e := linkage.Partners(g, d); !isGraph(g) && (e != api.ErrArg || rename != api.ErrArg || without != api.ErrArg) {
			t.Fatalf("P13.1: %v has the errors %d %d %d", g, e, rename, without)
		}
	}
	for n := 0; n <= 64; n += 4 {
		defects(randomGraph(source, n), check)
	}
	smallGraphs(func(g api.Graph) {
		if len(g.Links) <= 2 {
			defects(g, check)
		}
	})
	defects(example(), check)
	defects(fullGraph(), check)
	if seen[true] < 1000 || seen[false] < 10000 {
		t.Errorf("the graphs of the test are %v", seen)
	}
}
