package linkage_test

import (
	"math/rand"
	"slices"

	"coinage/api"
)

// links makes links: an Id, an obverse and a reverse die, and so on.
func links(l ...int) []api.Link {
	var list []api.Link
	for i := 0; i < len(l); i += 3 {
		list = append(list, api.Link{Id: l[i], Obv: l[i+1], Rev: l[i+2]})
	}
	return list
}

// example is the graph of the chapter.
func example() api.Graph {
	return api.Graph{Obv: []int{1, 3}, Rev: []int{2, 4}, Links: links(3, 1, 4, 5, 3, 4, 7, 1, 2)}
}

// coin makes a specimen of some dies.
func coin(id, obv, rev int) api.Specimen {
	return api.Specimen{Id: id, Obv: obv, Rev: rev, ObvState: 1, RevState: 1, Axis: 0, Weight: 1}
}

// coins makes a specimen of each link.
func coins(l []api.Link) []api.Specimen {
	var list []api.Specimen
	for _, k := range l {
		list = append(list, coin(k.Id, k.Obv, k.Rev))
	}
	return list
}

// lists calls yield with all lists of up to n of some values.
func lists[T any](from []T, n int, yield func([]T)) {
	var longer func([]T)
	longer = func(l []T) {
		yield(l)
		if len(l) < n {
			for _, x := range from {
				longer(append(slices.Clip(l), x))
			}
		}
	}
	longer(nil)
}

// smallGraphs calls yield with all valid graphs of up to four links between two
// obverse and three reverse dies.
func smallGraphs(yield func(api.Graph)) {
	ids, obv, rev := []int{1, 2, 500, 9999}, []int{1, 999}, []int{1, 2, 999}
	lists([]int{0, 1, 2, 3, 4, 5}, len(ids), func(pairs []int) {
		var l []api.Link
		for i, p := range pairs {
			l = append(l, api.Link{Id: ids[i], Obv: obv[p%2], Rev: rev[p/2]})
		}
		yield(made(l))
	})
}

// someOf lists n different numbers from 1 to most, in any order, often the least
// and the greatest one.
func someOf(source *rand.Rand, n, most int) []int {
	var list []int
	for len(list) < n {
		x := 1 + source.Intn(most)
		switch source.Intn(2 * n) {
		case 0:
			x = 1
		case 1:
			x = most
		}
		if !slices.Contains(list, x) {
			list = append(list, x)
		}
	}
	return list
}

// randomCoins is a corpus list of n specimens of at most that many dies of each
// side, in any order.
func randomCoins(source *rand.Rand, n, obv, rev int) []api.Specimen {
	var list []api.Specimen
	o, r := someOf(source, obv, 999), someOf(source, rev, 999)
	for _, id := range someOf(source, n, 9999) {
		s := coin(id, o[source.Intn(obv)], r[source.Intn(rev)])
		s.ObvState, s.RevState = 1+source.Intn(9), 1+source.Intn(9)
		s.Axis, s.Weight = source.Intn(12), 1+source.Intn(200000)
		list = append(list, s)
	}
	return list
}

// randomGraph is a valid graph of n links, of any number of dies that it can have.
func randomGraph(source *rand.Rand, n int) api.Graph {
	var l []api.Link
	for _, s := range randomCoins(source, n, 1+source.Intn(32), 1+source.Intn(32)) {
		l = append(l, api.Link{Id: s.Id, Obv: s.Obv, Rev: s.Rev})
	}
	return made(l)
}

// fullGraph is a graph with as many dies and links as there can be.
func fullGraph() api.Graph {
	var l []api.Link
	for i := range 64 {
		l = append(l, api.Link{Id: 9936 + i, Obv: 968 + i%32, Rev: 999 - (i*7)%32})
	}
	return made(l)
}

// shuffled is a list in another order.
func shuffled[T any](source *rand.Rand, l []T) []T {
	other := slices.Clone(l)
	source.Shuffle(len(l), func(i, k int) { other[i], other[k] = other[k], other[i] })
	return other
}
