package poset_test

import (
	"math"
	"slices"
	"testing"

	"coinage/api"
	"coinage/poset"
)

// each calls check with all small digraphs, with special ones and random ones.
func each(check func(digraph)) {
	for n := range 5 {
		all(n, check)
	}
	for _, g := range append(special(), random(1500)...) {
		check(g)
	}
}

// P6.1: digraphs are valid, others are not.
func TestValid(t *testing.T) {
	each(func(g digraph) {
		if !poset.Valid(g.n, g.a) {
			t.Fatalf("P6.1: %v is not valid", g)
		}
	})
	for _, g := range invalid() {
		if poset.Valid(g.n, g.a) {
			t.Errorf("P6.1: %v is valid", g)
		}
	}
}

// P6.1: of all lists of up to three arcs with small numbers, exactly those of
// digraphs are valid.
func TestValidShort(t *testing.T) {
	var grid []api.Arc
	for i := -1; i <= 3; i++ {
		for j := -1; j <= 3; j++ {
			grid = append(grid, api.Arc{From: i, To: j})
		}
	}
	proper := func(n int, a []api.Arc) bool {
		for k, arc := range a {
			if arc.From < 0 || arc.From >= n || arc.To < 0 || arc.To >= n || arc.From == arc.To {
				return false
			}
			if k > 0 && 10*a[k-1].From+a[k-1].To >= 10*arc.From+arc.To {
				return false
			}
		}
		return true
	}
	var extend func(a []api.Arc)
	extend = func(a []api.Arc) {
		for n := range 4 {
			if got := poset.Valid(n, a); got != proper(n, a) {
				t.Fatalf("P6.1: Valid(%d, %v) = %v", n, a, got)
			}
		}
		for _, arc := range grid {
			if len(a) < 3 {
				extend(append(slices.Clone(a), arc))
			}
		}
	}
	extend(nil)
}

// P6.1: what is no digraph is refused by all functions, whatever else is wrong.
func TestArg(t *testing.T) {
	for _, g := range invalid() {
		closure, e1 := poset.Closure(g.n, g.a)
		cycle, e2 := poset.Cycle(g.n, g.a)
		order, e3 := poset.Order(g.n, g.a)
		reduction, e4 := poset.Reduction(g.n, g.a)
		levels, e5 := poset.Levels(g.n, g.a)
		for k, e := range []api.Errno{e1, e2, e3, e4, e5} {
			if e != api.ErrArg {
				t.Errorf("P6.1: %v has the error %d from function %d", g, e, k)
			}
		}
		if len(closure)+len(cycle)+len(order)+len(reduction)+len(levels) > 0 {
			t.Errorf("P6.1: %v has results with its errors", g)
		}
		if poset.Acyclic(g.n, g.a) {
			t.Errorf("P6.1: %v is acyclic", g)
		}
		for _, keep := range [][]int{nil, {0}, {0, 1}, {5, 1}, {-1}} {
			if l, e := poset.Induced(g.n, g.a, keep); e != api.ErrArg || len(l) != 0 {
				t.Errorf("P6.1: Induced of %v: %v %d", g, l, e)
			}
		}
		for _, i := range []int{0, 1, 2, 24, -1} {
			if poset.Reaches(g.n, g.a, i, 1) || poset.Reaches(g.n, g.a, 0, i) {
				t.Errorf("P6.1: %v has vertices that reach others", g)
			}
		}
	}
}

// checkInduced compares Induced with the arcs that it is to have.
func checkInduced(t *testing.T, g digraph, keep []int) {
	t.Helper()
	want := choose(len(keep), func(i, j int) bool { return g.hasArc(keep[i], keep[j]) })
	got, e := poset.Induced(g.n, g.a, keep)
	if e != api.OK || !slices.Equal(got, want.a) {
		t.Fatalf("P6.1: Induced of %v, %v: %v %d", g, keep, got, e)
	}
}

// P6.1: digraphs on some of the vertices: none, all, each few ones, also if
// there are cycles.
func TestInduced(t *testing.T) {
	each(func(g digraph) {
		if g.n <= 4 {
			for bits := range 1 << g.n {
				checkInduced(t, g, members(g.n, bits))
			}
			return
		}
		for _, bits := range []int{0, 1, 1<<g.n - 1, 1 << (g.n - 1), 0x555555, 0xaaaaaa, 0xf0f0f0, 0x924924, 0xfff000, 0x000fff} {
			checkInduced(t, g, members(g.n, bits))
		}
	})
	if got, e := poset.Induced(4, arcs("0-2 1-2 2-3"), []int{0, 2, 3}); e != api.OK || !slices.Equal(got, arcs("0-1 1-2")) {
		t.Errorf("P6.1: Induced: %v %d", got, e)
	}
	if got, e := poset.Induced(0, nil, nil); e != api.OK || len(got) != 0 {
		t.Errorf("P6.1: Induced of nothing: %v %d", got, e)
	}
}

// members lists the vertices whose bits are set.
func members(n, bits int) []int {
	l := []int{}
	for i := range n {
		if bits>>i&1 == 1 {
			l = append(l, i)
		}
	}
	return l
}

// P6.1: Induced refuses lists that are not strictly ascending, or with a number
// that is no vertex.
func TestInducedArg(t *testing.T) {
	g := digraph{4, arcs("0-2 1-2 2-3 3-0")}
	for _, keep := range [][]int{
		{-1}, {4}, {24}, {math.MaxInt}, {math.MinInt}, {0, 0}, {3, 3}, {1, 0}, {3, 2}, {0, 2, 1}, {0, 1, 1}, {0, 0, 1}, {1, 2, 3, 0}, {-1, 0}, {0, -1},
		{0, 4}, {3, 4}, {0, 1, 2, 3, 4}, {0, 1, 2, 3, 3}, {-1, 0, 1, 2, 3}, {math.MinInt, 0, 1}, {0, 1, math.MaxInt}, {math.MinInt, math.MaxInt}, {math.MaxInt, math.MinInt},
		slices.Repeat([]int{1}, 100000),
	} {
		if got, e := poset.Induced(g.n, g.a, keep); e != api.ErrArg || len(got) != 0 {
			t.Errorf("P6.1: Induced with %.40v: %v %d", keep, got, e)
		}
	}
	for _, keep := range [][]int{{0}, {-1}, {1}} {
		if got, e := poset.Induced(0, nil, keep); e != api.ErrArg || len(got) != 0 {
			t.Errorf("P6.1: Induced of no vertex with %v: %v %d", keep, got, e)
		}
	}
}

// P6.1: the examples of the chapter.
func TestExamples(t *testing.T) {
	a := arcs("0-2 1-2 2-3")
	if l, e := poset.Order(4, a); e != api.OK || !slices.Equal(l, []int{0, 1, 2, 3}) {
		t.Errorf("P6.1: Order: %v %d", l, e)
	}
	if l, e := poset.Levels(4, a); e != api.OK || !slices.Equal(l, []int{0, 0, 1, 2}) {
		t.Errorf("P6.1: Levels: %v %d", l, e)
	}
	closure, e := poset.Closure(4, a)
	if e != api.OK || !slices.Equal(closure, arcs("0-2 0-3 1-2 1-3 2-3")) {
		t.Errorf("P6.1: Closure: %v %d", closure, e)
	}
	if l, e := poset.Reduction(4, closure); e != api.OK || !slices.Equal(l, a) {
		t.Errorf("P6.1: Reduction: %v %d", l, e)
	}
	if l, e := poset.Cycle(4, a); e != api.ErrNone || len(l) != 0 {
		t.Errorf("P6.1: Cycle: %v %d", l, e)
	}
	if l, e := poset.Cycle(4, arcs("0-2 1-2 2-3 3-0")); e != api.OK || !slices.Equal(l, []int{0, 2, 3}) {
		t.Errorf("P6.1: Cycle: %v %d", l, e)
	}
}

// use calls all functions, and overwrites all that they return, also behind the
// ends of the lists.
func use(n int, a []api.Arc, keep []int) {
	for _, f := range []func(int, []api.Arc) ([]api.Arc, api.Errno){poset.Closure, poset.Reduction} {
		spoil(f(n, a))
	}
	for _, f := range []func(int, []api.Arc) ([]int, api.Errno){poset.Cycle, poset.Order, poset.Levels} {
		spoil(f(n, a))
	}
	spoil(poset.Induced(n, a, keep))
	poset.Valid(n, a)
	poset.Acyclic(n, a)
	poset.Reaches(n, a, 0, n-1)
}

// spoil overwrites a list with a copy of its last element, to its capacity.
func spoil[T any](l []T, _ api.Errno) {
	l = l[:cap(l)]
	for i := range l {
		l[i] = l[len(l)-1]
	}
}

// P6.1: no function changes its arguments or the capacity behind them, or
// returns memory that it uses again.
func TestMemory(t *testing.T) {
	for _, g := range append(special(), digraph{4, arcs("0-2 1-2 2-3")}, digraph{4, arcs("0-2 1-2 2-3 3-0")}) {
		whole := append(slices.Clone(g.a), api.Arc{From: 77, To: 78}, api.Arc{From: 79, To: 79})
		keep := append(members(g.n, 1<<g.n-1), 77, 78)
		arcsBefore, keepBefore := slices.Clone(whole), slices.Clone(keep)
		use(g.n, whole[:len(g.a)], keep[:g.n])
		if !slices.Equal(whole, arcsBefore) || !slices.Equal(keep, keepBefore) {
			t.Fatalf("P6.1: the arguments of %v became %v and %v", g, whole, keep)
		}
		closure, _ := poset.Closure(g.n, g.a)
		induced, _ := poset.Induced(g.n, g.a, keep[:g.n])
		if !slices.Equal(closure, g.closure()) || !slices.Equal(induced, g.a) {
			t.Fatalf("P6.1: %v has the closure %v after its results were overwritten", g, closure)
		}
	}
}
