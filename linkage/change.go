package linkage

import (
	"slices"

	"coinage/api"
)

// Without returns the graph without the link with an Id, and without the dies that
// have no other link; ErrNone if there is no such link.
func Without(g Graph, id int) (Graph, Errno) {
	if !Valid(g) {
		return Graph{}, api.ErrArg
	}
	i := slices.IndexFunc(g.Links, func(k Link) bool { return k.Id == id })
	if i < 0 {
		return Graph{}, api.ErrNone
	}
	return graphOf(slices.Concat(g.Links[:i], g.Links[i+1:])), api.OK
}

// Renamed returns the graph in which each die has the number that stands at its
// place in obv or rev.
func Renamed(g Graph, obv, rev []int) (Graph, Errno) {
	if !Valid(g) || !areNames(obv, len(g.Obv)) || !areNames(rev, len(g.Rev)) {
		return Graph{}, api.ErrArg
	}
	links := make([]Link, len(g.Links))
	for i, k := range g.Links {
		o, r := places(g, k)
		links[i] = Link{Id: k.Id, Obv: obv[o], Rev: rev[r]}
	}
	return graphOf(links), api.OK
}

// areNames reports whether l consists of as many different numbers of dies as
// there are dies.
func areNames(l []int, dies int) bool {
	if len(l) != dies {
		return false
	}
	for _, n := range l {
		if !isNumber(n) {
			return false
		}
	}
	return len(distinct(l)) == dies
}
