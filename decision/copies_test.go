package decision_test

import (
	"math/rand"
	"slices"
	"testing"

	"coinage/api"
	"coinage/decision"
)

// spoil overwrites a list, and what a list that shares its memory would have
// behind it.
func spoil[T any](l []T) {
	clear(l)
	clear(l[:cap(l)])
}

// P11.1: what is done with results afterwards does not change a ledger.
func TestResults(t *testing.T) {
	source := rand.New(rand.NewSource(1))
	for i := range 200 {
		l, m := ledgerOf(t, decisionsAt(someMarks(source, i)), someMarks(source, i))
		for range 3 {
			spoil(l.Made())
			spoil(l.Withdrawn())
			spoil(l.Standing())
			check(t, "P11.1", l, m)
			made, withdrawn, standing := l.Made(), l.Withdrawn(), l.Standing()
			checkMake(t, l, m, decisionAt(someMarks(source, 1)[0]))
			checkWithdraw(t, l, m, someMarks(source, 1)[0])
			spoil(made)
			spoil(withdrawn)
			spoil(standing)
			check(t, "P11.1", l, m)
		}
	}
}

// P11.1: earlier results are not changed by later calls.
func TestEarlierResults(t *testing.T) {
	l, m := decision.New(), newModel()
	for _, x := range someMarks(rand.New(rand.NewSource(2)), 200) {
		made, withdrawn, standing, before := l.Made(), l.Withdrawn(), l.Standing(), m.clone()
		checkMake(t, l, m, decisionAt(x))
		checkWithdraw(t, l, m, x)
		copied, _ := ledgerOf(t, made, withdrawn)
		check(t, "P11.1", copied, before)
		if want := before.list(true); !slices.Equal(standing, want) {
			t.Fatalf("P11.1: Standing became %v, want %v", standing, want)
		}
	}
}

// P11.1: a copy and what it was made of do not change one another.
func TestClone(t *testing.T) {
	source := rand.New(rand.NewSource(3))
	for i := range 300 {
		l, m := randomLedger(t, source, 1+i%8, 200, 150)
		copied, n := l.Clone(), m.clone()
		check(t, "P11.1", copied, n)
		if !copied.Same(l) || !l.Same(copied) {
			t.Fatalf("P11.1: a copy is not the same")
		}
		for range 30 {
			randomCall(source, 8, 200).done(t, l, m)
			randomCall(source, 8, 200).done(t, copied, n)
			check(t, "P11.1", l, m)
			check(t, "P11.1", copied, n)
		}
		o, k := randomLedger(t, source, 8, 200, 60)
		joined, want := m.joined(k)
		if e := l.Join(o); e != want {
			t.Fatalf("P11.1: Join: %d, want %d", e, want)
		}
		check(t, "P11.1", l, joined)
		check(t, "P11.1", copied, n)
	}
}

// P11.1: ledgers that were joined do not change one another afterwards.
func TestJoinedApart(t *testing.T) {
	source := rand.New(rand.NewSource(4))
	for i := range 300 {
		l, m := randomLedger(t, source, 1+i%8, 200, 60)
		o, n := randomLedger(t, source, 1+i%8, 200, 60*(i%2))
		if l.Join(o) != api.OK {
			continue
		}
		m, _ = m.joined(n)
		for range 30 {
			randomCall(source, 8, 200).done(t, o, n)
			randomCall(source, 8, 200).done(t, l, m)
			check(t, "P11.1", l, m)
			check(t, "P11.1", o, n)
		}
	}
}

// P11.1: Same compares both sets, in both directions, and takes nil for empty.
func TestSame(t *testing.T) {
	a, b := at(1, 5), at(5, 1)
	other := decisionAt(a)
	other.A++
	var ledgers []*decision.Ledger
	for _, made := range [][]api.Decision{nil, decisionsAt([]api.Mark{a}), decisionsAt([]api.Mark{b}), decisionsAt([]api.Mark{a, b}), {other}} {
		for _, withdrawn := range [][]api.Mark{nil, {a}, {b}, {a, b}} {
			l, _ := ledgerOf(t, made, withdrawn)
			ledgers = append(ledgers, l)
		}
	}
	for i, l := range ledgers {
		for k, o := range ledgers {
			if got := l.Same(o); got != (i == k) {
				t.Errorf("P11.1: ledgers %d and %d are the same: %v", i, k, got)
			}
		}
		var none *decision.Ledger
		if got, back := l.Same(none), none.Same(l); got != (i == 0) || back != got {
			t.Errorf("P11.1: ledger %d and nil are the same: %v, %v", i, got, back)
		}
	}
	var none *decision.Ledger
	if !none.Same(none) {
		t.Errorf("P11.1: nil and nil are not the same")
	}
}

// P11.1: the same ledgers, in whatever way they were made.
func TestSameWays(t *testing.T) {
	source := rand.New(rand.NewSource(5))
	for range 200 {
		made, withdrawn := someMarks(source, source.Intn(201)), someMarks(source, source.Intn(201))
		l, m := ledgerOf(t, decisionsAt(made), withdrawn)
		half, _ := ledgerOf(t, decisionsAt(made[len(made)/2:]), withdrawn[:len(withdrawn)/2])
		rest, _ := ledgerOf(t, decisionsAt(made[:len(made)/2]), withdrawn[len(withdrawn)/2:])
		if half.Same(l) && len(made)+len(withdrawn) > 1 {
			t.Fatalf("P11.1: half a ledger is the same as the whole of it")
		}
		if e := half.Join(rest); e != api.OK || !half.Same(l) || !l.Same(half) {
			t.Fatalf("P11.3: two halves of a ledger are not the same as the whole: %d", e)
		}
		check(t, "P11.3", half, m)
	}
}
