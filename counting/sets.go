package counting

import (
	"coinage/api"
	"coinage/natural"
)

// RankSet returns the number of sets below n of the same size that come before
// a set; ErrRange if n is out of its limits, ErrArg if set is no set below n.
func RankSet(n int, set []int) (Natural, Errno) {
	if !within(n, maxObjects) {
		return Natural{}, api.ErrRange
	}
	if !isSet(n, set) {
		return Natural{}, api.ErrArg
	}
	before, _ := natural.Sub(choose(n, len(set)), natural.Of(1))
	for i, number := range set {
		before, _ = natural.Sub(before, later(n, len(set)-i, number))
	}
	return before, api.OK
}

// UnrankSet returns the set of k numbers below n with the rank r; ErrRange if n
// or k is out of its limits, ErrNone if there are not so many sets.
func UnrankSet(n, k int, r Natural) ([]int, Errno) {
	if !within(n, maxObjects) || !within(k, n) {
		return nil, api.ErrRange
	}
	after, e := natural.Sub(choose(n, k), natural.Add(r, natural.Of(1)))
	if e != api.OK {
		return nil, api.ErrNone
	}
	set := make([]int, 0, k)
	for number := 0; len(set) < k; number++ {
		rest, e := natural.Sub(after, later(n, k-len(set), number))
		if e == api.OK {
			set = append(set, number)
			after = rest
		}
	}
	return set, api.OK
}

// later returns how many sets with the same beginning come after one because
// of its next number: all numbers they still need are greater than this one.
// These counts of all numbers of a set add up to the sets that come after it.
func later(n, need, number int) Natural {
	return choose(n-1-number, need)
}

// isSet reports whether a list is strictly ascending with numbers from 0 to
// n - 1.
func isSet(n int, list []int) bool {
	least := 0
	for _, number := range list {
		if number < least || number >= n {
			return false
		}
		least = number + 1
	}
	return true
}
