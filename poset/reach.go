package poset

import "coinage/api"

// Reaches reports whether n and a are a digraph with the vertices i and j, and
// a path of at least one arc leads from i to j.
func Reaches(n int, a []Arc, i, j int) bool {
	return Valid(n, a) && isVertex(n, i) && isVertex(n, j) && reached(n, a)[i].has(j)
}

// Closure returns all arcs (i, j) between different vertices for which i
// reaches j, strictly ascending.
func Closure(n int, a []Arc) ([]Arc, Errno) {
	if !Valid(n, a) {
		return nil, api.ErrArg
	}
	return list(n, reached(n, a)), api.OK
}

// Reduction returns the arcs of Closure that do not follow from two others,
// strictly ascending; ErrCycle if the digraph is not acyclic.
func Reduction(n int, a []Arc) ([]Arc, Errno) {
	if !Valid(n, a) {
		return nil, api.ErrArg
	}
	if !Acyclic(n, a) {
		return nil, api.ErrCycle
	}
	after := reached(n, a)
	far := steps(n, after, after)
	for i := range n {
		after[i] &^= far[i]
	}
	return list(n, after), api.OK
}

// reached returns for each vertex those that it reaches.
func reached(n int, a []Arc) sets {
	after := successors(a)
	// When k has had its turn, the sets know all paths on which no vertex but
	// their ends is above k.
	for k := range n {
		for i := range n {
			if after[i].has(k) {
				after[i] |= after[k]
			}
		}
	}
	return after
}
