package decision

import (
	"slices"

	"coinage/api"
)

// Join adds to both sets of the ledger those of o; ErrConflict if different
// decisions with one mark were made in them, ErrFull if a set would be too large.
func (l *Ledger) Join(o *Ledger) Errno {
	if l == nil || o == nil {
		return api.ErrArg
	}
	if l.contradicts(o) {
		return api.ErrConflict
	}
	made := union(l.made, o.made, compareDecisions)
	withdrawn := union(l.withdrawn, o.withdrawn, compareMarks)
	if len(made) > api.MaxDecisions || len(withdrawn) > api.MaxDecisions {
		return api.ErrFull
	}
	l.made, l.withdrawn = made, withdrawn
	return api.OK
}

// contradicts reports whether a decision was made in o, and another one with its
// mark in l.
func (l *Ledger) contradicts(o *Ledger) bool {
	return slices.ContainsFunc(o.made, func(d Decision) bool {
		i, found := l.placeMade(markOf(d))
		return found && l.made[i] != d
	})
}

// union returns the elements of two ascending lists in order, each of them once.
// Elements that the order takes for the same must be equal.
func union[T comparable](a, b []T, order func(T, T) int) []T {
	all := slices.Concat(a, b)
	slices.SortFunc(all, order)
	return slices.Compact(all)
}
