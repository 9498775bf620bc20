package poset

import "coinage/api"

// A set contains the vertices whose bits are 1.
type set uint32

// sets are one set for each vertex.
type sets [api.MaxVertices]set

// has reports whether the vertex i is in s.
func (s set) has(i int) bool { return s>>i&1 == 1 }

// with returns s with the vertex i.
func (s set) with(i int) set { return s | 1<<i }

// successors returns for each vertex those to which an arc leads from it.
func successors(a []Arc) sets {
	var after sets
	for _, arc := range a {
		after[arc.From] = after[arc.From].with(arc.To)
	}
	return after
}

// predecessors returns for each vertex those from which an arc leads to it.
func predecessors(a []Arc) sets {
	var before sets
	for _, arc := range a {
		before[arc.To] = before[arc.To].with(arc.From)
	}
	return before
}

// steps returns for each vertex the union of the sets that after has for those
// in its set of s.
func steps(n int, s, after sets) sets {
	var far sets
	for i := range n {
		for k := range n {
			if s[i].has(k) {
				far[i] |= after[k]
			}
		}
	}
	return far
}

// list returns the arcs from each vertex to the other ones in its set, strictly
// ascending.
func list(n int, s sets) []Arc {
	var arcs []Arc
	for i := range n {
		for j := range n {
			if i != j && s[i].has(j) {
				arcs = append(arcs, Arc{From: i, To: j})
			}
		}
	}
	return arcs
}
