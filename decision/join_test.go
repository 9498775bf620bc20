package decision_test

import (
	"math/rand"
	"slices"
	"testing"

	"coinage/api"
	"coinage/decision"
)

// checkJoin joins a copy of a ledger with another one, and compares the result
// and both ledgers with their models.
func checkJoin(t *testing.T, l *decision.Ledger, m model, o *decision.Ledger, n model) (*decision.Ledger, model, api.Errno) {
	t.Helper()
	both, want := m.joined(n)
	joined := l.Clone()
	e := joined.Join(o)
	if e != want {
		t.Fatalf("P11.1: Join: %d, want %d", e, want)
	}
	check(t, "P11.1", joined, both)
	// A copy may have less room than the ledger, which could be used by mistake.
	if e != api.OK && l.Join(o) != e {
		t.Fatalf("P11.1: Join of the ledger itself, and not of its copy, has another error than %d", e)
	}
	check(t, "P11.1", l, m)
	check(t, "P11.1", o, n)
	return joined, both, e
}

// randomLedger is a ledger of decisions and marks of a few authors and numbers.
func randomLedger(t *testing.T, source *rand.Rand, authors, numbers, calls int) (*decision.Ledger, model) {
	t.Helper()
	l, m := decision.New(), newModel()
	for range source.Intn(calls + 1) {
		x := randomMark(source, authors, numbers)
		d := decisionAt(x)
		if source.Intn(200) == 0 {
			d.A++
		}
		call{source.Intn(2) == 0, d}.done(t, l, m)
	}
	check(t, "P11.1", l, m)
	return l, m
}

// P11.1: both sets become unions; withdrawals in one ledger meet decisions that
// were made in the other one only.
func TestJoinCases(t *testing.T) {
	a, b, c := at(0, 9), at(1, 5), at(1, 6)
	l, m := ledgerOf(t, decisionsAt([]api.Mark{b, a}), []api.Mark{c})
	o, n := ledgerOf(t, decisionsAt([]api.Mark{c, b}), []api.Mark{a, c})
	joined, _, e := checkJoin(t, l, m, o, n)
	if e != api.OK {
		t.Fatalf("P11.1: Join: %d", e)
	}
	if made := joined.Made(); !slices.Equal(made, decisionsAt([]api.Mark{a, b, c})) {
		t.Errorf("P11.1: Made after Join: %v", made)
	}
	if withdrawn := joined.Withdrawn(); !slices.Equal(withdrawn, []api.Mark{a, c}) {
		t.Errorf("P11.1: Withdrawn after Join: %v", withdrawn)
	}
	if standing := joined.Standing(); !slices.Equal(standing, decisionsAt([]api.Mark{b})) {
		t.Errorf("P11.4: Standing after Join: %v", standing)
	}
	empty := decision.New()
	if joined, _, e := checkJoin(t, l, m, empty, newModel()); e != api.OK || !joined.Same(l) {
		t.Errorf("P11.1: Join with an empty ledger: %d", e)
	}
	if joined, _, e := checkJoin(t, empty, newModel(), l, m); e != api.OK || !joined.Same(l) {
		t.Errorf("P11.1: Join of an empty ledger: %d", e)
	}
}

// P11.1: two different decisions with one mark, also withdrawn ones.
func TestJoinConflict(t *testing.T) {
	d := of(1, 5, 3, 3, 7)
	rest := decisionsAt([]api.Mark{at(0, 1), at(7, 200)})
	for _, other := range []api.Decision{of(1, 5, 1, 3, 7), of(1, 5, 4, 3, 7), of(1, 5, 3, 7, 3), of(1, 5, 3, 2, 7), of(1, 5, 3, 3, 8)} {
		for _, withdrawn := range [][]api.Mark{nil, {mark(d)}} {
			l, m := ledgerOf(t, append(slices.Clone(rest), d), withdrawn)
			o, n := ledgerOf(t, []api.Decision{other}, []api.Mark{at(3, 3)})
			if _, _, e := checkJoin(t, l, m, o, n); e != api.ErrConflict {
				t.Errorf("P11.1: Join of %v and %v: %d", d, other, e)
			}
			if _, _, e := checkJoin(t, o, n, l, m); e != api.ErrConflict {
				t.Errorf("P11.1: Join of %v and %v: %d", other, d, e)
			}
		}
	}
	for _, other := range []api.Decision{d, of(1, 4, 3, 7, 3), of(2, 5, 3, 7, 3), of(5, 1, 3, 7, 3)} {
		l, m := ledgerOf(t, []api.Decision{d}, nil)
		o, n := ledgerOf(t, []api.Decision{other}, nil)
		if _, _, e := checkJoin(t, l, m, o, n); e != api.OK {
			t.Errorf("P11.1: Join of %v and %v: %d", d, other, e)
		}
	}
}

// P11.1: 200 decisions or marks in both ledgers together are accepted, and 201
// are not, while what both have counts once.
func TestJoinFull(t *testing.T) {
	source := rand.New(rand.NewSource(1))
	for range 20 {
		some := someMarks(source, 201)
		for _, shared := range []int{0, 1, 99, 150, 199} {
			for _, total := range []int{199, 200, 201} {
				// One ledger has the first marks, the other one the last ones.
				end := shared + (total-shared)/2
				first, last := some[:end], some[end-shared:total]
				want := api.OK
				if total > 200 {
					want = api.ErrFull
				}
				l, m := ledgerOf(t, decisionsAt(first), nil)
				o, n := ledgerOf(t, decisionsAt(last), nil)
				if _, _, e := checkJoin(t, l, m, o, n); e != want {
					t.Fatalf("P11.1: Join up to %d decisions: %d", total, e)
				}
				l, m = ledgerOf(t, decisionsAt(some[:5]), first)
				o, n = ledgerOf(t, decisionsAt(some[4:9]), last)
				if _, _, e := checkJoin(t, l, m, o, n); e != want {
					t.Fatalf("P11.1: Join up to %d withdrawn marks: %d", total, e)
				}
			}
		}
	}
}

// P11.1: a conflict is named before a set that would be too large.
func TestJoinErrorOrder(t *testing.T) {
	some := someMarks(rand.New(rand.NewSource(2)), 400)
	other := decisionAt(some[0])
	other.A++
	for _, n := range []int{1, 200} {
		l, m := ledgerOf(t, decisionsAt(some[:200]), some[:200])
		o, k := ledgerOf(t, append([]api.Decision{other}, decisionsAt(some[200:200+n-1])...), some[200:])
		if _, _, e := checkJoin(t, l, m, o, k); e != api.ErrConflict {
			t.Errorf("P11.1: Join of full ledgers that contradict one another: %d", e)
		}
		if _, _, e := checkJoin(t, o, k, l, m); e != api.ErrConflict {
			t.Errorf("P11.1: Join of full ledgers that contradict one another, the other way round: %d", e)
		}
	}
}

// P11.1: random ledgers, few elements or so many that they are too many together.
func TestJoinRandom(t *testing.T) {
	source, seen := rand.New(rand.NewSource(3)), map[api.Errno]int{}
	for i := range 1500 {
		numbers, calls := []int{4, 30, 200}[i%3], []int{8, 60, 400}[i%3]
		l, m := randomLedger(t, source, 1+i%8, numbers, calls)
		o, n := randomLedger(t, source, 1+i%8, numbers, calls)
		_, _, e := checkJoin(t, l, m, o, n)
		seen[e]++
		if got, want := l.Same(o), m.same(n); got != want || o.Same(l) != want {
			t.Fatalf("P11.1: Same: %v, want %v", got, want)
		}
	}
	for _, e := range []api.Errno{api.OK, api.ErrConflict, api.ErrFull} {
		if seen[e] < 50 {
			t.Errorf("P11.1: only %d joins end with %d", seen[e], e)
		}
	}
}

// joinedOf is the join of some ledgers, one after the other; false if there is an
// error.
func joinedOf(ledgers ...*decision.Ledger) (*decision.Ledger, bool) {
	l := ledgers[0].Clone()
	for _, o := range ledgers[1:] {
		if l.Join(o) != api.OK {
			return nil, false
		}
	}
	return l, true
}

// P11.3: joins of three ledgers in any order and with any grouping, of a ledger
// with itself, and with what it has been joined with.
func TestJoinLaws(t *testing.T) {
	source, compared := rand.New(rand.NewSource(4)), 0
	for i := range 1500 {
		numbers, calls := []int{4, 30, 200}[i%3], []int{8, 60, 180}[i%3]
		a, _ := randomLedger(t, source, 1+i%8, numbers, calls)
		b, _ := randomLedger(t, source, 1+i%8, numbers, calls)
		c, _ := randomLedger(t, source, 1+i%8, numbers, calls)
		if itself, ok := joinedOf(a, a, a); !ok || !itself.Same(a) {
			t.Fatalf("P11.3: a ledger joined with itself is another one")
		}
		ab, ok := joinedOf(a, b)
		ba, back := joinedOf(b, a)
		if ok != back || ok && !ab.Same(ba) {
			t.Fatalf("P11.3: Join is not commutative")
		}
		bc, right := joinedOf(b, c)
		if !ok || !right {
			continue
		}
		left, ok := joinedOf(ab, c)
		other, right := joinedOf(a, bc)
		if ok != right || ok && !left.Same(other) {
			t.Fatalf("P11.3: Join is not associative")
		}
		if again, ok := joinedOf(ab, b, a, ab); !ok || !again.Same(ab) {
			t.Fatalf("P11.3: Join is not idempotent")
		}
		compared++
	}
	if compared < 500 {
		t.Errorf("P11.3: only %d triples without errors", compared)
	}
}

// P11.3: a full ledger joined with itself, the very same object, does not change.
func TestJoinItself(t *testing.T) {
	some := someMarks(rand.New(rand.NewSource(5)), 200)
	for _, n := range []int{0, 1, 101, 200} {
		l, m := ledgerOf(t, decisionsAt(some[:n]), some[200-n:])
		if e := l.Join(l); e != api.OK {
			t.Errorf("P11.3: Join of a ledger of %d with itself: %d", n, e)
		}
		check(t, "P11.3", l, m)
	}
}

// P11.4: a decision stands after a join exactly if it was made in one of both
// ledgers and withdrawn in none.
func TestJoinStanding(t *testing.T) {
	source := rand.New(rand.NewSource(6))
	for range 300 {
		l, m := randomLedger(t, source, 3, 20, 40)
		o, n := randomLedger(t, source, 3, 20, 40)
		joined, ok := joinedOf(l, o)
		if !ok {
			continue
		}
		for _, x := range allMarks()[:700] {
			d := decisionAt(x)
			made := slices.Contains(l.Made(), d) || slices.Contains(o.Made(), d)
			if got := slices.Contains(joined.Standing(), d); got != (made && !m.withdrawn[x] && !n.withdrawn[x]) {
				t.Fatalf("P11.4: %v stands after Join: %v", d, got)
			}
		}
	}
}
