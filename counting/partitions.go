package counting

import (
	"coinage/api"
	"coinage/natural"
)

// Stirling returns the number of partitions of n objects into k parts;
// ErrRange if n is out of its limits.
func Stirling(n, k int) (Natural, Errno) {
	if !within(n, maxObjects) {
		return Natural{}, api.ErrRange
	}
	return partitions(n, k), api.OK
}

// Surjections returns the number of functions from n objects onto k objects;
// ErrRange if one of them is out of its limits.
func Surjections(n, k int) (Natural, Errno) {
	if !within(n, maxObjects) || !within(k, maxObjects) {
		return Natural{}, api.ErrRange
	}
	return natural.Mul(product(1, k), partitions(n, k)), api.OK
}

// partitions returns a Stirling number for an n of at least 0.
func partitions(n, k int) Natural {
	if !within(k, n) {
		return natural.Of(0)
	}
	// row[d] is the number of partitions of parts + d objects. It suffices to
	// know those with at most n - k objects more than parts: the last object
	// is either a part of its own, or joins one of the parts of the others.
	row := make([]Natural, n-k+1)
	row[0] = natural.Of(1)
	for parts := 1; parts <= k; parts++ {
		choices := natural.Of(uint64(parts))
		for d := 1; d <= n-k; d++ {
			row[d] = natural.Add(row[d], natural.Mul(choices, row[d-1]))
		}
	}
	return row[n-k]
}

// Bell returns the number of all partitions of n objects; ErrRange if n is out
// of its limits.
func Bell(n int) (Natural, Errno) {
	if !within(n, maxObjects) {
		return Natural{}, api.ErrRange
	}
	// Bell's triangle: a row begins with the end of the row before it, and
	// each further number is the sum of its neighbours to the left and above.
	row := []Natural{natural.Of(1)}
	for range n {
		next := []Natural{row[len(row)-1]}
		for i, above := range row {
			next = append(next, natural.Add(next[i], above))
		}
		row = next
	}
	return row[0], api.OK
}
