package linkage_test

import (
	"maps"
	"slices"

	"coinage/api"
)

// isDie compares the number of a die with its limits.
func isDie(n int) bool { return n >= 1 && n <= 999 }

// isGraph is the definition of a valid die graph, with sets of the dies.
func isGraph(g api.Graph) bool {
	if len(g.Obv) > 32 || len(g.Rev) > 32 || len(g.Links) > 64 {
		return false
	}
	unused := map[api.Die]bool{}
	for side, list := range [][]int{g.Obv, g.Rev} {
		for i, n := range list {
			if !isDie(n) || i > 0 && list[i-1] >= n {
				return false
			}
			unused[api.Die{Side: side, Number: n}] = true
		}
	}
	for i, k := range g.Links {
		if k.Id < 1 || k.Id > 9999 || i > 0 && g.Links[i-1].Id >= k.Id {
			return false
		}
		if !slices.Contains(g.Obv, k.Obv) || !slices.Contains(g.Rev, k.Rev) {
			return false
		}
		delete(unused, api.Die{Side: 0, Number: k.Obv})
		delete(unused, api.Die{Side: 1, Number: k.Rev})
	}
	return len(unused) == 0
}

// made is the graph with some links, in any order, and with their dies.
func made(links []api.Link) api.Graph {
	obv, rev, byId := map[int]bool{}, map[int]bool{}, map[int]api.Link{}
	for _, k := range links {
		obv[k.Obv], rev[k.Rev], byId[k.Id] = true, true, k
	}
	g := api.Graph{Obv: slices.Sorted(maps.Keys(obv)), Rev: slices.Sorted(maps.Keys(rev))}
	for _, id := range slices.Sorted(maps.Keys(byId)) {
		g.Links = append(g.Links, byId[id])
	}
	return g
}

// isSpecimen compares all fields of a specimen with their limits.
func isSpecimen(s api.Specimen) bool {
	for _, c := range [][3]int{
		{1, s.Id, 9999}, {1, s.Obv, 999}, {1, s.Rev, 999}, {1, s.ObvState, 9}, {1, s.RevState, 9}, {0, s.Axis, 11}, {1, s.Weight, 200000},
	} {
		if c[1] < c[0] || c[1] > c[2] {
			return false
		}
	}
	return true
}

// wantOf is what Of is to return.
func wantOf(l []api.Specimen) (api.Graph, api.Errno) {
	if len(l) > 64 {
		return api.Graph{}, api.ErrFull
	}
	var links []api.Link
	used := map[int]bool{}
	for _, s := range l {
		if !isSpecimen(s) {
			return api.Graph{}, api.ErrArg
		}
		used[s.Id] = true
		links = append(links, api.Link{Id: s.Id, Obv: s.Obv, Rev: s.Rev})
	}
	if len(used) < len(l) {
		return api.Graph{}, api.ErrDup
	}
	g := made(links)
	if len(g.Obv) > 32 || len(g.Rev) > 32 {
		return api.Graph{}, api.ErrFull
	}
	return g, api.OK
}

// wantDies is what Dies is to return.
func wantDies(g api.Graph) ([]api.Die, api.Errno) {
	if !isGraph(g) {
		return nil, api.ErrArg
	}
	var dies []api.Die
	for side, list := range [][]int{g.Obv, g.Rev} {
		for _, n := range list {
			dies = append(dies, api.Die{Side: side, Number: n})
		}
	}
	return dies, api.OK
}

// count is how many links a graph has between two dies.
func count(g api.Graph, obv, rev int) int {
	sum := 0
	for _, k := range g.Links {
		if k.Obv == obv && k.Rev == rev {
			sum++
		}
	}
	return sum
}

// wantMatrix is what Matrix is to return.
func wantMatrix(g api.Graph) ([][]int, api.Errno) {
	if !isGraph(g) {
		return nil, api.ErrArg
	}
	var rows [][]int
	for _, o := range g.Obv {
		var row []int
		for _, r := range g.Rev {
			row = append(row, count(g, o, r))
		}
		rows = append(rows, row)
	}
	return rows, api.OK
}

// wantPairs is what Pairs is to return.
func wantPairs(g api.Graph) ([]api.Pair, api.Errno) {
	if !isGraph(g) {
		return nil, api.ErrArg
	}
	var pairs []api.Pair
	for _, o := range g.Obv {
		for _, r := range g.Rev {
			if count(g, o, r) > 0 {
				pairs = append(pairs, api.Pair{A: o, B: r})
			}
		}
	}
	return pairs, api.OK
}

// isIn reports whether a die is in a valid graph.
func isIn(g api.Graph, d api.Die) bool {
	return d.Side == 0 && slices.Contains(g.Obv, d.Number) || d.Side == 1 && slices.Contains(g.Rev, d.Number)
}

// wantDegree is what Degree is to return.
func wantDegree(g api.Graph, d api.Die) int {
	if !isGraph(g) || !isIn(g, d) {
		return 0
	}
	sum := 0
	for _, k := range g.Links {
		if [2]int{k.Obv, k.Rev}[d.Side] == d.Number {
			sum++
		}
	}
	return sum
}

// wantPartners is what Partners is to return.
func wantPartners(g api.Graph, d api.Die) ([]int, api.Errno) {
	if !isGraph(g) {
		return nil, api.ErrArg
	}
	if !isIn(g, d) {
		return nil, api.ErrNone
	}
	var partners []int
	if d.Side == 0 {
		for _, r := range g.Rev {
			if count(g, d.Number, r) > 0 {
				partners = append(partners, r)
			}
		}
		return partners, api.OK
	}
	for _, o := range g.Obv {
		if count(g, o, d.Number) > 0 {
			partners = append(partners, o)
		}
	}
	return partners, api.OK
}

// wantWithout is what Without is to return.
func wantWithout(g api.Graph, id int) (api.Graph, api.Errno) {
	if !isGraph(g) {
		return api.Graph{}, api.ErrArg
	}
	var others []api.Link
	for _, k := range g.Links {
		if k.Id != id {
			others = append(others, k)
		}
	}
	if len(others) == len(g.Links) {
		return api.Graph{}, api.ErrNone
	}
	return made(others), api.OK
}

// names gives each number of a list the one at its place in another list; false
// if these are not as many different numbers of dies.
func names(from, to []int) (map[int]int, bool) {
	if len(from) != len(to) {
		return nil, false
	}
	name, used := map[int]int{}, map[int]bool{}
	for i, n := range to {
		if !isDie(n) || used[n] {
			return nil, false
		}
		name[from[i]], used[n] = n, true
	}
	return name, true
}

// wantRenamed is what Renamed is to return.
func wantRenamed(g api.Graph, obv, rev []int) (api.Graph, api.Errno) {
	if !isGraph(g) {
		return api.Graph{}, api.ErrArg
	}
	o, isObv := names(g.Obv, obv)
	r, isRev := names(g.Rev, rev)
	if !isObv || !isRev {
		return api.Graph{}, api.ErrArg
	}
	var links []api.Link
	for _, k := range g.Links {
		links = append(links, api.Link{Id: k.Id, Obv: o[k.Obv], Rev: r[k.Rev]})
	}
	return made(links), api.OK
}
