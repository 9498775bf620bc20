package poset

import "coinage/api"

// Cycle returns a cycle with the fewest vertices, beginning with its least one;
// of several the first list. ErrNone if the digraph is acyclic.
func Cycle(n int, a []Arc) ([]int, Errno) {
	if !Valid(n, a) {
		return nil, api.ErrArg
	}
	after := successors(a)
	// ends[k] has for each vertex the ends of its paths of k arcs.
	ends := []sets{{}, after}
	for k := 1; k <= n; k++ {
		if start := returning(n, ends[k]); start < n {
			return shortest(n, after, ends, start), api.OK
		}
		ends = append(ends, steps(n, ends[k], after))
	}
	return nil, api.ErrNone
}

// returning returns the least vertex that is in its own set; n if none is.
func returning(n int, s sets) int {
	for i := range n {
		if s[i].has(i) {
			return i
		}
	}
	return n
}

// shortest returns the first cycle from start that has as many arcs as the last
// of ends, where no cycle has fewer, and none of as many has a vertex below
// start. So each path of that many arcs back to start is a cycle without a
// repeated vertex, and start is its least one.
func shortest(n int, after sets, ends []sets, start int) []int {
	cycle := []int{start}
	last := start
	for k := len(ends) - 2; k >= 1; k-- {
		last = firstReturning(n, after[last], ends[k], start)
		cycle = append(cycle, last)
	}
	return cycle
}

// firstReturning returns the least vertex of s whose set of ends has start.
func firstReturning(n int, s set, ends sets, start int) int {
	for i := range n {
		if s.has(i) && ends[i].has(start) {
			return i
		}
	}
	return n
}
