package poset

import "coinage/api"

// Acyclic reports whether n and a are a digraph in which no vertex reaches
// itself.
func Acyclic(n int, a []Arc) bool {
	return Valid(n, a) && len(sorted(n, a)) == n
}

// Order returns the first list of all vertices in which the From of each arc
// stands before its To; ErrCycle if the digraph is not acyclic.
func Order(n int, a []Arc) ([]int, Errno) {
	if !Valid(n, a) {
		return nil, api.ErrArg
	}
	order := sorted(n, a)
	if len(order) < n {
		return nil, api.ErrCycle
	}
	return order, api.OK
}

// Levels returns for each vertex the length of the longest path that ends
// there; ErrCycle if the digraph is not acyclic.
func Levels(n int, a []Arc) ([]int, Errno) {
	order, e := Order(n, a)
	if e != api.OK {
		return nil, e
	}
	after := successors(a)
	levels := make([]int, n)
	for _, i := range order {
		for j := range n {
			if after[i].has(j) {
				levels[j] = max(levels[j], levels[i]+1)
			}
		}
	}
	return levels, api.OK
}

// sorted returns the list that Order describes; of a digraph with a cycle it
// lacks the vertices on cycles and those that they reach.
func sorted(n int, a []Arc) []int {
	before := predecessors(a)
	var order []int
	var done set
	for i := ready(n, before, done); i < n; i = ready(n, before, done) {
		order = append(order, i)
		done = done.with(i)
	}
	return order
}

// ready returns the least vertex that is not done while all before it are; n if
// there is none.
func ready(n int, before sets, done set) int {
	for i := range n {
		if !done.has(i) && before[i]&^done == 0 {
			return i
		}
	}
	return n
}
