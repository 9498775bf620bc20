package decision

import (
	"cmp"

	"coinage/api"
)

// The greatest author, and the greatest number of a decision of one author.
const (
	maxAuthor = 7
	maxNumber = 200
)

// Valid reports whether a decision is valid.
func Valid(d Decision) bool {
	if !validMark(markOf(d)) {
		return false
	}
	switch d.Kind {
	case api.SameObv, api.SameRev:
		return isDie(d.A) && isDie(d.B) && d.A < d.B
	case api.Earlier:
		return isId(d.A) && isId(d.B) && d.A != d.B
	case api.SameCoin:
		return isId(d.A) && isId(d.B) && d.A < d.B
	}
	return false
}

// validMark reports whether a mark is valid.
func validMark(m Mark) bool {
	return 0 <= m.Author && m.Author <= maxAuthor && 1 <= m.Number && m.Number <= maxNumber
}

// isDie reports whether n is the number of a die.
func isDie(n int) bool { return 1 <= n && n <= api.MaxDie }

// isId reports whether n is the Id of a specimen.
func isId(n int) bool { return 1 <= n && n <= api.MaxId }

// markOf returns the mark of a decision.
func markOf(d Decision) Mark { return Mark{Author: d.Author, Number: d.Number} }

// compareMarks orders marks by Author, then by Number.
func compareMarks(a, b Mark) int {
	return cmp.Or(cmp.Compare(a.Author, b.Author), cmp.Compare(a.Number, b.Number))
}

// compareDecisions orders decisions by their marks.
func compareDecisions(a, b Decision) int { return compareMarks(markOf(a), markOf(b)) }
