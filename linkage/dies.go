package linkage

import (
	"cmp"
	"slices"

	"coinage/api"
)

// Dies returns the obverse dies and then the reverse dies, ascending.
func Dies(g Graph) ([]Die, Errno) {
	if !Valid(g) {
		return nil, api.ErrArg
	}
	var dies []Die
	for _, n := range g.Obv {
		dies = append(dies, Die{Side: api.Obverse, Number: n})
	}
	for _, n := range g.Rev {
		dies = append(dies, Die{Side: api.Reverse, Number: n})
	}
	return dies, api.OK
}

// Degree returns the number of links of d; 0 if g is not valid or d not in it.
func Degree(g Graph, d Die) int {
	if !Valid(g) {
		return 0
	}
	return len(linksOf(g, d))
}

// Matrix returns for each obverse die a row with the numbers of its links with
// each reverse die.
func Matrix(g Graph) ([][]int, Errno) {
	if !Valid(g) {
		return nil, api.ErrArg
	}
	rows := make([][]int, len(g.Obv))
	for i := range rows {
		rows[i] = make([]int, len(g.Rev))
	}
	for _, k := range g.Links {
		o, r := places(g, k)
		rows[o][r]++
	}
	return rows, api.OK
}

// Pairs returns the numbers of the pairs of dies that have a link, ascending, each
// pair once.
func Pairs(g Graph) ([]Pair, Errno) {
	if !Valid(g) {
		return nil, api.ErrArg
	}
	var pairs []Pair
	for _, k := range g.Links {
		pairs = append(pairs, Pair{A: k.Obv, B: k.Rev})
	}
	slices.SortFunc(pairs, func(p, q Pair) int {
		return cmp.Or(cmp.Compare(p.A, q.A), cmp.Compare(p.B, q.B))
	})
	return slices.Compact(pairs), api.OK
}

// Partners returns the numbers of the dies with which d has a link, ascending;
// ErrNone if d is not in the graph.
func Partners(g Graph, d Die) ([]int, Errno) {
	if !Valid(g) {
		return nil, api.ErrArg
	}
	links := linksOf(g, d)
	if len(links) == 0 {
		// Each die of a graph has a link.
		return nil, api.ErrNone
	}
	if d.Side == api.Obverse {
		return numbers(links, api.Reverse), api.OK
	}
	return numbers(links, api.Obverse), api.OK
}

// linksOf returns the links of d; none if d is not in the graph.
func linksOf(g Graph, d Die) []Link {
	var links []Link
	for _, k := range g.Links {
		if d == obverse(k) || d == reverse(k) {
			links = append(links, k)
		}
	}
	return links
}

// obverse returns the obverse die of a link.
func obverse(k Link) Die { return Die{Side: api.Obverse, Number: k.Obv} }

// reverse returns the reverse die of a link.
func reverse(k Link) Die { return Die{Side: api.Reverse, Number: k.Rev} }

// places returns the places of the dies of a link in the lists of a valid graph.
func places(g Graph, k Link) (int, int) {
	o, _ := slices.BinarySearch(g.Obv, k.Obv)
	r, _ := slices.BinarySearch(g.Rev, k.Rev)
	return o, r
}
