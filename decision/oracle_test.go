package decision_test

import (
	"maps"
	"math"
	"math/rand"
	"slices"
	"testing"

	"coinage/api"
	"coinage/decision"
)

// extremes are integers far from all limits.
var extremes = []int{
	math.MinInt, math.MinInt + 1, math.MinInt32, -1 << 32, -9999, -200, -1,
	10001, 1 << 31, 1 << 32, 1<<32 + 1, 1<<32 + 7, math.MaxInt32, math.MaxInt - 1, math.MaxInt,
}

// of is the decision with these fields.
func of(author, number, kind, a, b int) api.Decision {
	return api.Decision{Author: author, Number: number, Kind: kind, A: a, B: b}
}

// at is the mark with these fields.
func at(author, number int) api.Mark { return api.Mark{Author: author, Number: number} }

// badMarks are marks that are not valid.
func badMarks() []api.Mark {
	bad := []api.Mark{at(0, 0), at(8, 1), at(-1, 200), at(7, 201), at(200, 7), at(8, 0)}
	for _, n := range extremes {
		bad = append(bad, at(n, 1), at(1, n), at(n, n))
	}
	return bad
}

// badDecisions are decisions that are not valid.
func badDecisions() []api.Decision {
	bad := []api.Decision{
		of(0, 0, 0, 0, 0), of(1, 5, 0, 3, 7), of(1, 5, 5, 3, 7), of(1, 5, 1, 7, 3), of(1, 5, 2, 7, 3), of(1, 5, 4, 7, 3), of(1, 5, 1, 3, 3), of(1, 5, 2, 3, 3), of(1, 5, 3, 3, 3), of(1, 5, 4, 3, 3),
		of(1, 5, 1, 0, 3), of(1, 5, 1, 3, 1000), of(1, 5, 2, 0, 3), of(1, 5, 2, 3, 1000), of(1, 5, 3, 0, 3), of(1, 5, 3, 3, 0), of(1, 5, 3, 3, 10000), of(1, 5, 3, 10000, 3), of(1, 5, 4, 0, 3), of(1, 5, 4, 3, 10000),
	}
	for _, m := range badMarks() {
		bad = append(bad, of(m.Author, m.Number, 1, 3, 7))
	}
	return bad
}

// mark is the mark of a decision.
func mark(d api.Decision) api.Mark { return at(d.Author, d.Number) }

// within reports whether a number is from lo to hi.
func within(n, lo, hi int) bool { return n >= lo && n <= hi }

// isMark reports whether a mark is to be valid.
func isMark(m api.Mark) bool { return within(m.Author, 0, 7) && within(m.Number, 1, 200) }

// isValid reports whether a decision is to be valid.
func isValid(d api.Decision) bool {
	greatest := map[int]int{1: 999, 2: 999, 3: 9999, 4: 9999}[d.Kind]
	turned := d.A > d.B && d.Kind != 3
	return isMark(mark(d)) && within(d.A, 1, greatest) && within(d.B, 1, greatest) && d.A != d.B && !turned
}

// model is what a ledger is to have: two sets, and no order.
type model struct {
	made      map[api.Decision]bool
	withdrawn map[api.Mark]bool
}

func newModel() model { return model{map[api.Decision]bool{}, map[api.Mark]bool{}} }

func (m model) clone() model { return model{maps.Clone(m.made), maps.Clone(m.withdrawn)} }

// conflicts reports whether another decision with the mark of d was made.
func (m model) conflicts(d api.Decision) bool {
	for x := range m.made {
		if x != d && mark(x) == mark(d) {
			return true
		}
	}
	return false
}

// make is what Make is to return, and it makes the decision if there is no error.
func (m model) make(d api.Decision) api.Errno {
	if !isValid(d) {
		return api.ErrArg
	}
	if m.made[d] {
		return api.OK
	}
	if m.conflicts(d) {
		return api.ErrConflict
	}
	if len(m.made) == 200 {
		return api.ErrFull
	}
	m.made[d] = true
	return api.OK
}

// withdraw is what Withdraw is to return, and it withdraws the mark if there is
// no error.
func (m model) withdraw(x api.Mark) api.Errno {
	if !isMark(x) {
		return api.ErrArg
	}
	if !m.withdrawn[x] && len(m.withdrawn) == 200 {
		return api.ErrFull
	}
	m.withdrawn[x] = true
	return api.OK
}

// joined is what Join is to make of two ledgers, with its error.
func (m model) joined(o model) (model, api.Errno) {
	for d := range o.made {
		if m.conflicts(d) {
			return m, api.ErrConflict
		}
	}
	both := m.clone()
	maps.Copy(both.made, o.made)
	maps.Copy(both.withdrawn, o.withdrawn)
	if len(both.made) > 200 || len(both.withdrawn) > 200 {
		return m, api.ErrFull
	}
	return both, api.OK
}

// same reports whether two models have the same sets.
func (m model) same(o model) bool {
	return maps.Equal(m.made, o.made) && maps.Equal(m.withdrawn, o.withdrawn)
}

// before reports whether a mark comes before another one.
func before(a, b api.Mark) bool {
	return a.Author < b.Author || a.Author == b.Author && a.Number < b.Number
}

// order is the result of a comparison of two marks.
func order(a, b api.Mark) int {
	if before(a, b) {
		return -1
	}
	if before(b, a) {
		return 1
	}
	return 0
}

// list is the decisions of the model in order, all of them or those that stand.
func (m model) list(standing bool) []api.Decision {
	var l []api.Decision
	for d := range m.made {
		if !standing || !m.withdrawn[mark(d)] {
			l = append(l, d)
		}
	}
	slices.SortFunc(l, func(a, b api.Decision) int { return order(mark(a), mark(b)) })
	return l
}

// marks are the withdrawn marks of the model in order.
func (m model) marks() []api.Mark { return slices.SortedFunc(maps.Keys(m.withdrawn), order) }

// check compares all that a ledger tells of itself with a model.
func check(t *testing.T, promise string, l *decision.Ledger, m model) {
	t.Helper()
	if l == nil {
		t.Fatalf("%s: no ledger", promise)
	}
	if got, want := l.Made(), m.list(false); !slices.Equal(got, want) {
		t.Fatalf("%s: Made: %v, want %v", promise, got, want)
	}
	if got, want := l.Withdrawn(), m.marks(); !slices.Equal(got, want) {
		t.Fatalf("%s: Withdrawn: %v, want %v", promise, got, want)
	}
	if got, want := l.Standing(), m.list(true); !slices.Equal(got, want) {
		t.Fatalf("%s: Standing: %v, want %v", promise, got, want)
	}
}

// checkMake makes a decision in a ledger and in its model.
func checkMake(t *testing.T, l *decision.Ledger, m model, d api.Decision) {
	t.Helper()
	want := m.make(d)
	if e := l.Make(d); e != want {
		t.Fatalf("P11.1: Make(%v): %d, want %d", d, e, want)
	}
	check(t, "P11.1", l, m)
}

// checkWithdraw withdraws a mark in a ledger and in its model.
func checkWithdraw(t *testing.T, l *decision.Ledger, m model, x api.Mark) {
	t.Helper()
	want := m.withdraw(x)
	if e := l.Withdraw(x); e != want {
		t.Fatalf("P11.1: Withdraw(%v): %d, want %d", x, e, want)
	}
	check(t, "P11.1", l, m)
}

// ledgerOf is a ledger of decisions and withdrawn marks, with its model.
func ledgerOf(t *testing.T, made []api.Decision, withdrawn []api.Mark) (*decision.Ledger, model) {
	t.Helper()
	l, m := decision.New(), newModel()
	for _, d := range made {
		if want, e := m.make(d), l.Make(d); e != want {
			t.Fatalf("P11.1: Make(%v): %d, want %d", d, e, want)
		}
	}
	for _, x := range withdrawn {
		if want, e := m.withdraw(x), l.Withdraw(x); e != want {
			t.Fatalf("P11.1: Withdraw(%v): %d, want %d", x, e, want)
		}
	}
	check(t, "P11.1", l, m)
	return l, m
}

// randomMark is a valid mark of a few authors and numbers.
func randomMark(source *rand.Rand, authors, numbers int) api.Mark {
	return at(source.Intn(authors), 1+source.Intn(numbers))
}

// decisionAt is the decision of a mark that follows from the mark, so that no two
// of these contradict one another.
func decisionAt(x api.Mark) api.Decision {
	return of(x.Author, x.Number, 1+(x.Author+x.Number)%4, x.Number, 301+x.Author)
}

// allMarks are all marks that are valid, in order.
func allMarks() []api.Mark {
	var l []api.Mark
	for author := range 8 {
		for number := 1; number <= 200; number++ {
			l = append(l, at(author, number))
		}
	}
	return l
}

// someMarks are n different valid marks in any order.
func someMarks(source *rand.Rand, n int) []api.Mark {
	l := allMarks()
	source.Shuffle(len(l), func(i, k int) { l[i], l[k] = l[k], l[i] })
	return l[:n]
}

// decisionsAt are the decisions of some marks.
func decisionsAt(marks []api.Mark) []api.Decision {
	var l []api.Decision
	for _, x := range marks {
		l = append(l, decisionAt(x))
	}
	return l
}
