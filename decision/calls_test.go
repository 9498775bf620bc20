package decision_test

import (
	"math/rand"
	"slices"
	"testing"

	"coinage/api"
	"coinage/decision"
)

// call is a call of Make or of Withdraw.
type call struct {
	withdraw bool
	decision api.Decision
}

// fewCalls are calls of which some repeat, contradict or withdraw others.
var fewCalls = []call{
	{false, of(1, 5, 1, 3, 7)},
	{false, of(1, 5, 2, 3, 7)},
	{true, api.Decision{Author: 1, Number: 5}},
	{false, of(0, 6, 3, 9, 4)},
	{true, api.Decision{Author: 0, Number: 6}},
	{false, of(1, 4, 4, 9, 4)},
}

// done does a call at a ledger and at its model.
func (c call) done(t *testing.T, l *decision.Ledger, m model) api.Errno {
	t.Helper()
	e, want := api.OK, api.OK
	if c.withdraw {
		e, want = l.Withdraw(mark(c.decision)), m.withdraw(mark(c.decision))
	} else {
		e, want = l.Make(c.decision), m.make(c.decision)
	}
	if e != want {
		t.Fatalf("P11.1: %v: %d, want %d", c, e, want)
	}
	return e
}

// P11.1: all sequences of up to 6 of a few calls.
func TestShortSequences(t *testing.T) {
	var follow func(calls []call)
	follow = func(calls []call) {
		l, m := decision.New(), newModel()
		for _, c := range calls {
			c.done(t, l, m)
		}
		check(t, "P11.1", l, m)
		if len(calls) == 6 {
			return
		}
		for _, c := range fewCalls {
			follow(append(calls, c))
		}
	}
	follow(nil)
}

// randomCall is a call with one of a few marks; now and then it is not valid.
func randomCall(source *rand.Rand, authors, numbers int) call {
	x := randomMark(source, authors, numbers)
	d := decisionAt(x)
	switch source.Intn(10) {
	case 0:
		d.A++
	case 1:
		d.Kind = source.Intn(6)
	case 2:
		d.A, d.B = source.Intn(6), source.Intn(6)
	case 3:
		d.Number = source.Intn(300)
	}
	return call{source.Intn(3) == 0, d}
}

// P11.1: long random sequences, with few marks or with so many that the ledgers
// become full.
func TestLongSequences(t *testing.T) {
	source := rand.New(rand.NewSource(5))
	for i := range 60 {
		l, m := decision.New(), newModel()
		numbers := []int{3, 40, 200}[i%3]
		for n := range 1200 {
			randomCall(source, 1+i%8, numbers).done(t, l, m)
			if n%20 == 0 {
				check(t, "P11.1", l, m)
			}
		}
		check(t, "P11.1", l, m)
	}
}

// P11.2: calls without errors in any order, some of them repeated, leave the same
// ledger.
func TestAnyOrder(t *testing.T) {
	source := rand.New(rand.NewSource(6))
	for range 500 {
		var calls []call
		first, m := decision.New(), newModel()
		for range source.Intn(260) {
			if c := randomCall(source, 8, 200); c.done(t, first, m) == api.OK {
				calls = append(calls, c)
			}
		}
		for range 3 {
			again := slices.Clone(calls)
			for range source.Intn(20) {
				if len(calls) > 0 {
					again = append(again, calls[source.Intn(len(calls))])
				}
			}
			source.Shuffle(len(again), func(i, k int) { again[i], again[k] = again[k], again[i] })
			second := decision.New()
			for _, c := range again {
				if e := c.done(t, second, m); e != api.OK {
					t.Fatalf("P11.2: %v in another order: %d", c, e)
				}
			}
			check(t, "P11.2", second, m)
			if !first.Same(second) || !second.Same(first) {
				t.Fatalf("P11.2: another order of %v leaves another ledger", calls)
			}
		}
	}
}

// P11.2: repeated calls change nothing and have no errors in full ledgers.
func TestRepeated(t *testing.T) {
	some := someMarks(rand.New(rand.NewSource(7)), 200)
	l, m := ledgerOf(t, decisionsAt(some), some)
	before := l.Clone()
	for _, x := range some {
		if e := l.Make(decisionAt(x)); e != api.OK {
			t.Errorf("P11.2: Make(%v) again: %d", decisionAt(x), e)
		}
		if e := l.Withdraw(x); e != api.OK {
			t.Errorf("P11.2: Withdraw(%v) again: %d", x, e)
		}
	}
	check(t, "P11.2", l, m)
	if !l.Same(before) {
		t.Errorf("P11.2: repeated calls change the ledger")
	}
}

// P11.4: after a withdrawal those decisions stand that stood before, without the
// withdrawn one; it never stands again, whatever is made.
func TestWithdrawals(t *testing.T) {
	source := rand.New(rand.NewSource(8))
	for range 200 {
		l, m := decision.New(), newModel()
		for range source.Intn(150) {
			randomCall(source, 4, 30).done(t, l, m)
		}
		for range 40 {
			x, before := randomMark(source, 4, 30), l.Standing()
			checkWithdraw(t, l, m, x)
			want := slices.DeleteFunc(before, func(d api.Decision) bool { return mark(d) == x })
			if got := l.Standing(); !slices.Equal(got, want) {
				t.Fatalf("P11.4: after Withdraw(%v) stand %v, want %v", x, got, want)
			}
			checkMake(t, l, m, decisionAt(x))
			if got := l.Standing(); !slices.Equal(got, want) {
				t.Fatalf("P11.4: Make(%v) after its withdrawal lets stand %v", decisionAt(x), got)
			}
		}
	}
}

// P11.4: the standing decisions are those that were made without those whose
// marks were withdrawn.
func TestStanding(t *testing.T) {
	source := rand.New(rand.NewSource(9))
	for range 300 {
		l, _ := ledgerOf(t, decisionsAt(someMarks(source, source.Intn(201))), someMarks(source, source.Intn(201)))
		var want []api.Decision
		for _, d := range l.Made() {
			if !slices.Contains(l.Withdrawn(), mark(d)) {
				want = append(want, d)
			}
		}
		if got := l.Standing(); !slices.Equal(got, want) {
			t.Fatalf("P11.4: Standing: %v, want %v", got, want)
		}
	}
}
