package linkage_test

import (
	"slices"
	"testing"

	"coinage/api"
	"coinage/linkage"
)

// obverse and reverse are the dies with a number.
func obverse(n int) api.Die { return api.Die{Side: 0, Number: n} }
func reverse(n int) api.Die { return api.Die{Side: 1, Number: n} }

// threefold is a graph in which O2 and R2 have three links, and the lists of which
// are not in the order of the links.
func threefold() api.Graph {
	return api.Graph{Obv: []int{1, 2, 30}, Rev: []int{2, 9, 10, 11}, Links: links(1, 30, 10, 2, 2, 2, 3, 1, 11, 4, 2, 2, 10, 30, 9, 11, 2, 2, 12, 1, 2, 13, 30, 11)}
}

// P13.1: the obverse dies come before the reverse dies.
func TestDies(t *testing.T) {
	for _, c := range []struct {
		g    api.Graph
		want []api.Die
	}{
		{api.Graph{}, nil},
		{example(), []api.Die{obverse(1), obverse(3), reverse(2), reverse(4)}},
		{threefold(), []api.Die{obverse(1), obverse(2), obverse(30), reverse(2), reverse(9), reverse(10), reverse(11)}},
	} {
		if dies, e := linkage.Dies(c.g); e != api.OK || !slices.Equal(dies, c.want) {
			t.Errorf("P13.1: Dies(%v): %v %d, want %v", c.g, dies, e, c.want)
		}
	}
}

// P13.1: a row for each obverse die, a number for each reverse die.
func TestMatrix(t *testing.T) {
	for _, c := range []struct {
		g    api.Graph
		want [][]int
	}{
		{api.Graph{}, nil},
		{example(), [][]int{{1, 1}, {0, 1}}},
		{threefold(), [][]int{{1, 0, 0, 1}, {3, 0, 0, 0}, {0, 1, 1, 1}}},
		{long(64), [][]int{{64}}},
		{star(3, 0), [][]int{{1, 1, 1}}},
		{star(3, 1), [][]int{{1}, {1}, {1}}},
	} {
		if rows, e := linkage.Matrix(c.g); e != api.OK || !slices.EqualFunc(rows, c.want, slices.Equal) {
			t.Errorf("P13.1: Matrix(%v): %v %d, want %v", c.g, rows, e, c.want)
		}
	}
}

// P13.1: each pair of linked dies once, by both numbers.
func TestPairs(t *testing.T) {
	for _, c := range []struct {
		g    api.Graph
		want []api.Pair
	}{
		{api.Graph{}, nil},
		{example(), []api.Pair{{A: 1, B: 2}, {A: 1, B: 4}, {A: 3, B: 4}}},
		{threefold(), []api.Pair{{A: 1, B: 2}, {A: 1, B: 11}, {A: 2, B: 2}, {A: 30, B: 9}, {A: 30, B: 10}, {A: 30, B: 11}}},
		{long(64), []api.Pair{{A: 1, B: 1}}},
		{star(3, 0), []api.Pair{{A: 1, B: 1}, {A: 1, B: 2}, {A: 1, B: 3}}},
		{star(3, 1), []api.Pair{{A: 1, B: 1}, {A: 2, B: 1}, {A: 3, B: 1}}},
	} {
		if pairs, e := linkage.Pairs(c.g); e != api.OK || !slices.Equal(pairs, c.want) {
			t.Errorf("P13.1: Pairs(%v): %v %d, want %v", c.g, pairs, e, c.want)
		}
	}
}

// P13.1: the links and the partners of each die. A die that is not in the graph
// has none, also if the other side has its number.
func TestPartners(t *testing.T) {
	for _, c := range []struct {
		g        api.Graph
		d        api.Die
		degree   int
		partners []int
	}{
		{example(), obverse(1), 2, []int{2, 4}},
		{example(), obverse(3), 1, []int{4}},
		{example(), reverse(2), 1, []int{1}},
		{example(), reverse(4), 2, []int{1, 3}},
		{example(), obverse(2), 0, nil},
		{example(), obverse(4), 0, nil},
		{example(), reverse(1), 0, nil},
		{example(), reverse(3), 0, nil},
		{example(), obverse(0), 0, nil},
		{example(), obverse(-1), 0, nil},
		{example(), api.Die{Side: -1, Number: 1}, 0, nil},
		{example(), api.Die{Side: 2, Number: 4}, 0, nil},
		{example(), api.Die{Side: 2, Number: 1}, 0, nil},
		{api.Graph{}, obverse(1), 0, nil},
		{api.Graph{}, api.Die{}, 0, nil},
		{threefold(), obverse(2), 3, []int{2}},
		{threefold(), reverse(2), 4, []int{1, 2}},
		{threefold(), obverse(30), 3, []int{9, 10, 11}},
		{threefold(), reverse(11), 2, []int{1, 30}},
		{long(64), obverse(1), 64, []int{1}},
		{long(64), reverse(1), 64, []int{1}},
	} {
		want := api.OK
		if c.partners == nil {
			want = api.ErrNone
		}
		if n := linkage.Degree(c.g, c.d); n != c.degree {
			t.Errorf("P13.1: Degree(%v, %v): %d, want %d", c.g, c.d, n, c.degree)
		}
		if l, e := linkage.Partners(c.g, c.d); e != want || !slices.Equal(l, c.partners) {
			t.Errorf("P13.1: Partners(%v, %v): %v %d, want %v %d", c.g, c.d, l, e, c.partners, want)
		}
	}
}

// P13.1: a graph that is not valid has ErrArg, also for a die that it does not
// have, and no die in it has a link.
func TestDiesErrArg(t *testing.T) {
	for _, g := range []api.Graph{
		{Obv: []int{1}}, {Rev: []int{1}}, {Links: links(1, 1, 1)}, {Obv: []int{1, 1}, Rev: []int{1}, Links: links(1, 1, 1)},
		{Obv: []int{1}, Rev: []int{1, 2}, Links: links(1, 1, 1)}, {Obv: []int{1}, Rev: []int{1}, Links: links(2, 1, 1, 1, 1, 1)}, wide(33), long(65),
	} {
		dies, e1 := linkage.Dies(g)
		rows, e2 := linkage.Matrix(g)
		pairs, e3 := linkage.Pairs(g)
		if e1 != api.ErrArg || e2 != api.ErrArg || e3 != api.ErrArg || len(dies)+len(rows)+len(pairs) > 0 {
			t.Errorf("P13.1: %v has %v %d, %v %d, %v %d", g, dies, e1, rows, e2, pairs, e3)
		}
		for _, d := range []api.Die{obverse(1), reverse(1), obverse(500), {Side: 2, Number: 1}, {}} {
			l, e := linkage.Partners(g, d)
			if n := linkage.Degree(g, d); n != 0 || e != api.ErrArg || len(l) > 0 {
				t.Errorf("P13.1: %v in %v has %d links, the partners %v, and the error %d", d, g, n, l, e)
			}
		}
	}
}
