package poset_test

import (
	"fmt"
	"math"
	"math/rand"
	"slices"
	"strings"

	"coinage/api"
)

// digraph is a number of vertices and arcs, valid or not.
type digraph struct {
	n int
	a []api.Arc
}

// String shows a digraph in messages, cut if it is long.
func (g digraph) String() string {
	arcs := g.a
	if len(arcs) > 60 {
		arcs = arcs[:60]
	}
	return fmt.Sprintf("n = %d, %d arcs %v", g.n, len(g.a), arcs)
}

// arcs makes arcs from a text like "0-2 1-2".
func arcs(s string) []api.Arc {
	var a []api.Arc
	for _, field := range strings.Fields(s) {
		var arc api.Arc
		if _, e := fmt.Sscanf(field, "%d-%d", &arc.From, &arc.To); e != nil {
			panic(e)
		}
		a = append(a, arc)
	}
	return a
}

// pairs lists all arcs between n vertices, ascending.
func pairs(n int) []api.Arc {
	var a []api.Arc
	for i := range n {
		for j := range n {
			if i != j {
				a = append(a, api.Arc{From: i, To: j})
			}
		}
	}
	return a
}

// choose lists the arcs of n vertices that are wanted, ascending.
func choose(n int, want func(i, j int) bool) digraph {
	return digraph{n, slices.DeleteFunc(pairs(n), func(arc api.Arc) bool { return !want(arc.From, arc.To) })}
}

// ring is a cycle of the given vertices among n.
func ring(n int, vertices ...int) digraph {
	next := map[int]int{}
	for k, v := range vertices {
		next[v] = vertices[(k+1)%len(vertices)]
	}
	return choose(n, func(i, j int) bool { to, has := next[i]; return has && to == j })
}

// all calls yield with every digraph of n vertices.
func all(n int, yield func(digraph)) {
	p := pairs(n)
	for bits := range 1 << len(p) {
		var a []api.Arc
		for k := range p {
			if bits>>k&1 == 1 {
				a = append(a, p[k])
			}
		}
		yield(digraph{n, a})
	}
}

// special lists digraphs of up to 24 vertices with a regular form.
func special() []digraph {
	var list []digraph
	for _, n := range []int{0, 1, 2, 3, 5, 8, 16, 23, 24} {
		list = append(list,
			digraph{n, nil},
			digraph{n, pairs(n)},
			choose(n, func(i, j int) bool { return i < j }),
			choose(n, func(i, j int) bool { return i > j }),
			choose(n, func(i, j int) bool { return j == i+1 }),
			choose(n, func(i, j int) bool { return j == i-1 }),
			choose(n, func(i, j int) bool { return j == (i+1)%n }),
			choose(n, func(i, j int) bool { return i == (j+1)%n }),
			choose(n, func(i, j int) bool { return j == (i+5)%n }),
			choose(n, func(i, j int) bool { return j == i+1 || j == i-4 }),
			choose(n, func(i, j int) bool { return j == i+1 || i == n-1 && j == n/2 }),
			choose(n, func(i, j int) bool { return i < n/2 && j >= n/2 }),
			choose(n, func(i, j int) bool { return j < n/2 && i >= n/2 }),
			choose(n, func(i, j int) bool { return j%(i+1) == 0 }),
			choose(n, func(i, j int) bool { return i%3 == j%3 && i > j }),
			choose(n, func(i, j int) bool { return i == n-1 || j == n-1 }),
			choose(n, func(i, j int) bool { return i%2 == 0 && j%2 == 1 }),
		)
	}
	list = append(list, ring(24, 23, 22, 21), ring(24, 5, 9, 7, 6), ring(24, 0, 23), ring(24, 22, 23), ring(9, 3, 8, 4, 7, 5))
	return list
}

// random lists digraphs of up to 24 vertices, sparse and dense ones, with cycles
// or without.
func random(count int) []digraph {
	source := rand.New(rand.NewSource(6))
	var list []digraph
	for range count {
		n := source.Intn(api.MaxVertices + 1)
		rank := source.Perm(n)
		acyclic := source.Intn(2) == 0
		density := source.Float64()
		if source.Intn(3) > 0 {
			density = 3 * density / float64(n+1)
		}
		list = append(list, choose(n, func(i, j int) bool {
			return source.Float64() < density && (!acyclic || rank[i] < rank[j])
		}))
	}
	return list
}

// invalid lists digraphs that miss the definition, in one way or in several.
func invalid() []digraph {
	list := []digraph{
		{-1, nil}, {25, nil}, {26, nil}, {-24, nil}, {math.MaxInt, nil}, {math.MinInt, nil}, {32, nil}, {64, nil},
		{-1, arcs("0-1")}, {25, arcs("0-1")}, {25, pairs(24)}, {25, pairs(25)}, {math.MaxInt, arcs("0-1 1-2")}, {math.MinInt, arcs("0-1")},
		{0, arcs("0-0")}, {0, arcs("0-1")}, {0, arcs("-1-0")}, {1, arcs("0-0")}, {1, arcs("0-1")}, {1, arcs("1-0")}, {2, arcs("1-2")}, {2, arcs("2-0")}, {2, arcs("0-2")},
		{3, arcs("0-0")}, {3, arcs("1-1")}, {3, arcs("2-2")}, {3, arcs("0-1 1-1")}, {3, arcs("0-1 1-1 1-2")}, {24, arcs("23-23")}, {24, arcs("23-24")}, {24, arcs("24-0")},
		{3, arcs("0-1 0-1")}, {3, arcs("0-2 0-1")}, {3, arcs("1-0 0-1")}, {3, arcs("1-2 0-1")}, {3, arcs("0-1 1-2 0-2")}, {3, arcs("0-1 1-2 1-2")}, {3, arcs("1-2 0-2")},
		{4, arcs("0-1 0-3 0-2")}, {4, arcs("0-1 0-2 1-3 1-2 2-3")}, {4, arcs("2-1 1-3")}, {4, arcs("2-1 1-0")}, {4, arcs("0-1 2-3 1-2")},
	}
	for _, bad := range []int{-1, 3, 24, 32, 63, 64, 1 << 32, math.MaxInt, math.MinInt} {
		list = append(list, digraph{3, []api.Arc{{From: bad, To: 0}}}, digraph{3, []api.Arc{{From: 0, To: bad}}}, digraph{3, []api.Arc{{From: bad, To: bad}}},
			digraph{3, []api.Arc{{From: 0, To: 1}, {From: 2, To: bad}}}, digraph{3, []api.Arc{{From: 0, To: 1}, {From: bad, To: 2}}})
	}
	for k := range pairs(5) {
		twice := slices.Insert(pairs(5), k, pairs(5)[k])
		swapped := pairs(5)
		swapped[k], swapped[(k+1)%20] = swapped[(k+1)%20], swapped[k]
		loop := pairs(5)
		loop[k].To = loop[k].From
		list = append(list, digraph{5, twice}, digraph{5, swapped}, digraph{5, loop}, digraph{4, pairs(5)})
	}
	return append(list, digraph{24, append(pairs(24), pairs(24)...)}, digraph{24, slices.Repeat(arcs("0-1"), 100000)}, digraph{23, pairs(24)})
}

// next lists the vertices to which an arc leads from i.
func (g digraph) next(i int) []int {
	var l []int
	for _, arc := range g.a {
		if arc.From == i {
			l = append(l, arc.To)
		}
	}
	return l
}

// hasArc reports whether an arc leads from i to j.
func (g digraph) hasArc(i, j int) bool { return slices.Contains(g.a, api.Arc{From: i, To: j}) }

// reach lists for each vertex which ones it reaches, by a search from it.
func (g digraph) reach() [][]bool {
	table := make([][]bool, g.n)
	for i := range table {
		table[i] = make([]bool, g.n)
		var search func(int)
		search = func(v int) {
			for _, j := range g.next(v) {
				if !table[i][j] {
					table[i][j] = true
					search(j)
				}
			}
		}
		search(i)
	}
	return table
}

// acyclic reports whether no vertex reaches itself.
func (g digraph) acyclic() bool {
	for i, row := range g.reach() {
		if row[i] {
			return false
		}
	}
	return true
}

// closure lists the arcs that Closure is to return.
func (g digraph) closure() []api.Arc {
	reach := g.reach()
	return choose(g.n, func(i, j int) bool { return reach[i][j] }).a
}

// reduction lists the arcs that Reduction is to return for an acyclic digraph.
func (g digraph) reduction() []api.Arc {
	reach := g.reach()
	return choose(g.n, func(i, j int) bool {
		for k := range g.n {
			if reach[i][k] && reach[k][j] {
				return false
			}
		}
		return reach[i][j]
	}).a
}

// level is the length of the longest path that ends at a vertex of an acyclic
// digraph; known keeps those that are found.
func (g digraph) level(i int, known map[int]int) int {
	if l, has := known[i]; has {
		return l
	}
	longest := 0
	for _, arc := range g.a {
		if arc.To == i {
			longest = max(longest, 1+g.level(arc.From, known))
		}
	}
	known[i] = longest
	return longest
}

// levels are the levels of all vertices of an acyclic digraph.
func (g digraph) levels() []int {
	l := make([]int, g.n)
	known := map[int]int{}
	for i := range l {
		l[i] = g.level(i, known)
	}
	return l
}

// cycle searches for cycles of one vertex, two and so on, in the order of their
// lists, and returns the first one; nil if there is none.
func (g digraph) cycle() []int {
	for length := 1; length <= g.n; length++ {
		for start := range g.n {
			if c := g.extend([]int{start}, length); c != nil {
				return c
			}
		}
	}
	return nil
}

// extend returns the first cycle of a length that begins with a path, and whose
// least vertex is the first one; nil if there is none.
func (g digraph) extend(path []int, length int) []int {
	start, last := path[0], path[len(path)-1]
	if len(path) == length {
		if g.hasArc(last, start) {
			return path
		}
		return nil
	}
	for _, j := range g.next(last) {
		if j > start && !slices.Contains(path, j) {
			if c := g.extend(append(slices.Clone(path), j), length); c != nil {
				return c
			}
		}
	}
	return nil
}

// allows reports whether a list has the From of each arc before its To.
func (g digraph) allows(order []int) bool {
	for _, arc := range g.a {
		if slices.Index(order, arc.From) > slices.Index(order, arc.To) {
			return false
		}
	}
	return true
}

// permutations calls yield with all orders of n vertices, the first one first,
// until it returns false.
func permutations(n int, yield func([]int) bool) {
	var extend func([]int) bool
	extend = func(l []int) bool {
		if len(l) == n {
			return yield(l)
		}
		for i := range n {
			if !slices.Contains(l, i) && !extend(append(slices.Clone(l), i)) {
				return false
			}
		}
		return true
	}
	extend(nil)
}

// order is the first of all permutations that is allowed; nil and false if none
// is.
func (g digraph) order() ([]int, bool) {
	var first []int
	found := false
	permutations(g.n, func(l []int) bool {
		if g.allows(l) {
			first, found = l, true
		}
		return !found
	})
	return first, found
}
