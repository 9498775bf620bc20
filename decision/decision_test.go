package decision_test

import (
	"math/rand"
	"slices"
	"testing"

	"coinage/api"
	"coinage/decision"
)

// P11.1: the examples of the chapter.
func TestExamples(t *testing.T) {
	l := decision.New()
	if e := l.Withdraw(at(1, 5)); e != api.OK {
		t.Fatalf("P11.1: Withdraw({1, 5}): %d", e)
	}
	d := of(1, 5, api.SameObv, 3, 7)
	if e := l.Make(d); e != api.OK {
		t.Fatalf("P11.1: Make(%v): %d", d, e)
	}
	if made := l.Made(); !slices.Equal(made, []api.Decision{d}) {
		t.Errorf("P11.1: Made: %v", made)
	}
	if standing := l.Standing(); len(standing) != 0 {
		t.Errorf("P11.4: Standing: %v", standing)
	}
	if e := l.Make(of(1, 5, api.SameRev, 3, 7)); e != api.ErrConflict {
		t.Errorf("P11.1: Make of another decision: %d", e)
	}
	if made := l.Made(); !slices.Equal(made, []api.Decision{d}) {
		t.Errorf("P11.1: Made after a conflict: %v", made)
	}
}

// P11.1: a new ledger is empty, and has nothing in common with another one.
func TestNew(t *testing.T) {
	first, second := decision.New(), decision.New()
	check(t, "P11.1", first, newModel())
	if !first.Same(second) {
		t.Errorf("P11.1: two new ledgers are not the same")
	}
	first.Make(of(1, 5, 1, 3, 7))
	first.Withdraw(at(2, 6))
	check(t, "P11.1", second, newModel())
	check(t, "P11.1", decision.New(), newModel())
}

// P11.1: valid decisions and their neighbours, by every field.
func TestValidCases(t *testing.T) {
	for _, d := range []api.Decision{
		of(0, 1, 1, 1, 2), of(7, 200, 1, 998, 999), of(3, 100, 1, 1, 999), of(0, 200, 2, 1, 2), of(7, 1, 2, 998, 999), of(0, 1, 3, 1, 2), of(0, 1, 3, 2, 1),
		of(7, 200, 3, 9999, 9998), of(7, 200, 3, 9998, 9999), of(1, 1, 3, 9999, 1), of(0, 1, 4, 1, 2), of(7, 200, 4, 9998, 9999), of(1, 1, 4, 1, 9999),
	} {
		if !decision.Valid(d) {
			t.Errorf("P11.1: %v is not valid", d)
		}
	}
	for _, d := range badDecisions() {
		if decision.Valid(d) {
			t.Errorf("P11.1: %v is valid", d)
		}
	}
}

// P11.1: valid are exactly the decisions with all fields within the limits of
// their kinds.
func TestValid(t *testing.T) {
	marks := slices.Concat(badMarks(), []api.Mark{at(0, 1), at(7, 1), at(0, 200), at(7, 200), at(3, 77)})
	kinds := append([]int{0, 1, 2, 3, 4, 5, 6}, extremes...)
	values := append([]int{0, 1, 2, 3, 500, 998, 999, 1000, 1001, 9998, 9999, 10000}, extremes...)
	for _, x := range marks {
		for _, kind := range kinds {
			for _, a := range values {
				for _, b := range values {
					d := of(x.Author, x.Number, kind, a, b)
					if got := decision.Valid(d); got != isValid(d) {
						t.Fatalf("P11.1: Valid(%v) = %v", d, got)
					}
				}
			}
		}
	}
}

// P11.1: all marks around the limits.
func TestValidMarks(t *testing.T) {
	for author := -3; author <= 11; author++ {
		for number := -3; number <= 210; number++ {
			x := at(author, number)
			d := of(author, number, 3, 2, 1)
			if got := decision.Valid(d); got != isMark(x) {
				t.Fatalf("P11.1: Valid(%v) = %v", d, got)
			}
			l, m := ledgerOf(t, nil, nil)
			checkMake(t, l, m, d)
			checkWithdraw(t, l, m, x)
		}
	}
}

// P11.1: the methods of nil, also with arguments that are not valid.
func TestNil(t *testing.T) {
	var none *decision.Ledger
	for _, d := range append(badDecisions(), of(1, 5, 1, 3, 7)) {
		if e := none.Make(d); e != api.ErrArg {
			t.Errorf("P11.1: Make(%v) of nil: %d", d, e)
		}
		if e := none.Withdraw(mark(d)); e != api.ErrArg {
			t.Errorf("P11.1: Withdraw(%v) of nil: %d", mark(d), e)
		}
	}
	if made, standing, withdrawn := none.Made(), none.Standing(), none.Withdrawn(); len(made) != 0 || len(standing) != 0 || len(withdrawn) != 0 {
		t.Errorf("P11.1: nil has %v, %v, %v", made, standing, withdrawn)
	}
	if none.Clone() != nil {
		t.Errorf("P11.1: Clone of nil is not nil")
	}
	l, m := ledgerOf(t, decisionsAt(allMarks()[:3]), allMarks()[2:5])
	if e := none.Join(none); e != api.ErrArg {
		t.Errorf("P11.1: Join of nil and nil: %d", e)
	}
	if e := none.Join(l); e != api.ErrArg {
		t.Errorf("P11.1: Join of nil and a ledger: %d", e)
	}
	if e := l.Join(none); e != api.ErrArg {
		t.Errorf("P11.1: Join of a ledger and nil: %d", e)
	}
	check(t, "P11.1", l, m)
}

// P11.1: what is not valid changes nothing, also if the ledger is full.
func TestNotValid(t *testing.T) {
	some := someMarks(rand.New(rand.NewSource(1)), 200)
	for _, n := range []int{0, 3, 200} {
		l, m := ledgerOf(t, decisionsAt(some[:n]), some[:n])
		for _, d := range badDecisions() {
			checkMake(t, l, m, d)
		}
		for _, x := range badMarks() {
			checkWithdraw(t, l, m, x)
		}
		if len(l.Made()) != n || len(l.Withdrawn()) != n {
			t.Errorf("P11.1: %d elements became %d and %d", n, len(l.Made()), len(l.Withdrawn()))
		}
	}
}

// P11.1: another decision with the same mark is refused, by whatever field it
// differs, also if the first one was withdrawn.
func TestConflict(t *testing.T) {
	d := of(1, 5, 3, 3, 7)
	for _, withdrawn := range [][]api.Mark{nil, {mark(d)}} {
		l, m := ledgerOf(t, []api.Decision{d}, withdrawn)
		for _, other := range []api.Decision{of(1, 5, 1, 3, 7), of(1, 5, 2, 3, 7), of(1, 5, 4, 3, 7), of(1, 5, 3, 7, 3), of(1, 5, 3, 2, 7), of(1, 5, 3, 3, 8)} {
			if e := l.Make(other); e != api.ErrConflict {
				t.Errorf("P11.1: Make(%v) after %v: %d", other, d, e)
			}
			check(t, "P11.1", l, m)
		}
		for _, other := range []api.Decision{d, of(1, 4, 3, 3, 7), of(1, 6, 3, 3, 7), of(0, 5, 3, 3, 7), of(2, 5, 3, 3, 7), of(5, 1, 3, 3, 7), d} {
			if e := l.Make(other); e != api.OK {
				t.Errorf("P11.1: Make(%v) after %v: %d", other, d, e)
			}
			m.make(other)
			check(t, "P11.1", l, m)
		}
	}
}

// P11.1: the 200th decision is made and the next one is refused, while what was
// made has the errors that it had before; a withdrawal makes no room.
func TestMakeFull(t *testing.T) {
	source := rand.New(rand.NewSource(2))
	for range 20 {
		some := someMarks(source, 210)
		l, m := ledgerOf(t, nil, nil)
		for i, x := range some {
			want := api.OK
			if i >= 200 {
				want = api.ErrFull
			}
			if e := l.Make(decisionAt(x)); e != want || m.make(decisionAt(x)) != want {
				t.Fatalf("P11.1: decision %d: %d, want %d", i+1, e, want)
			}
			check(t, "P11.1", l, m)
		}
		for _, x := range some {
			d := decisionAt(x)
			checkMake(t, l, m, d)
			d.A++
			checkMake(t, l, m, d)
			checkWithdraw(t, l, m, x)
			checkMake(t, l, m, d)
		}
		if standing := l.Standing(); len(l.Made()) != 200 || len(standing) != 0 {
			t.Fatalf("P11.1: %d decisions were made, %v stand", len(l.Made()), standing)
		}
	}
}

// P11.1: the 200th mark is withdrawn and the next one is refused, whether its
// decision was made or not, while decisions are still made.
func TestWithdrawFull(t *testing.T) {
	source := rand.New(rand.NewSource(3))
	for range 20 {
		some := someMarks(source, 210)
		l, m := ledgerOf(t, decisionsAt(some[150:210]), nil)
		for i, x := range some {
			want := api.OK
			if i >= 200 {
				want = api.ErrFull
			}
			if e := l.Withdraw(x); e != want || m.withdraw(x) != want {
				t.Fatalf("P11.1: mark %d: %d, want %d", i+1, e, want)
			}
			check(t, "P11.1", l, m)
		}
		for _, x := range some {
			checkWithdraw(t, l, m, x)
			checkMake(t, l, m, decisionAt(x))
		}
		if standing := l.Standing(); len(standing) != 10 {
			t.Fatalf("P11.1: %d decisions stand", len(standing))
		}
	}
}

// P11.1: decisions and marks are in the order of Author, then of Number, however
// they were entered.
func TestOrder(t *testing.T) {
	some := []api.Mark{at(0, 2), at(0, 10), at(0, 200), at(1, 1), at(2, 100), at(7, 3), at(7, 200)}
	source := rand.New(rand.NewSource(4))
	for range 300 {
		l, places := decision.New(), source.Perm(len(some))
		for _, i := range places {
			l.Make(decisionAt(some[i]))
		}
		if got := l.Standing(); !slices.Equal(got, decisionsAt(some)) {
			t.Fatalf("P11.1: Standing in the order %v: %v", places, got)
		}
		for _, i := range source.Perm(len(some)) {
			l.Withdraw(some[i])
		}
		if got := l.Made(); !slices.Equal(got, decisionsAt(some)) {
			t.Fatalf("P11.1: Made in the order %v: %v", places, got)
		}
		if got := l.Withdrawn(); !slices.Equal(got, some) {
			t.Fatalf("P11.1: Withdrawn in the order %v: %v", places, got)
		}
	}
}
