package counting_test

import (
	"math"
	"math/big"
	"math/bits"
	"math/rand/v2"
	"slices"
	"testing"

	"coinage/api"
	"coinage/counting"
	"coinage/natural"
)

// allSets lists the sets of k numbers below n in their order, with spare
// capacity in each, in which a write by the package would be found.
func allSets(n, k int) [][]int {
	var list [][]int
	for mask := range 1 << n {
		if bits.OnesCount(uint(mask)) != k {
			continue
		}
		set := make([]int, 0, k+2)
		for number := range n {
			if mask>>number&1 == 1 {
				set = append(set, number)
			}
		}
		list = append(list, spare(set))
	}
	slices.SortFunc(list, slices.Compare)
	return list
}

// spare returns a list with 77 in its unused capacity.
func spare(list []int) []int {
	store := append(slices.Clone(list), 77, 77)
	return store[:len(list)]
}

func isKept(list, want []int) bool {
	return slices.Equal(list[:len(list)+2], append(slices.Clone(want), 77, 77))
}

// P3.1, P3.4: RankSet and UnrankSet number all sets in their order.
func TestAllSets(t *testing.T) {
	for n := range 13 {
		for k := range n + 1 {
			list := allSets(n, k)
			for i, set := range list {
				want := slices.Clone(set)
				rank, e := counting.RankSet(n, set)
				check(t, "RankSet", rank, e, big.NewInt(int64(i)))
				got, e := counting.UnrankSet(n, k, rank)
				if e != api.OK || !slices.Equal(got, want) || !isKept(set, want) {
					t.Fatal(n, k, i, got, e)
				}
			}
			checkNone(t, n, k, natural.Of(uint64(len(list))))
		}
	}
}

// checkNone asks that there is no set of a rank.
func checkNone(t *testing.T, n, k int, r api.Natural) {
	t.Helper()
	got, e := counting.UnrankSet(n, k, r)
	if e != api.ErrNone || len(got) != 0 {
		t.Fatal(n, k, r.Limbs, got, e)
	}
}

// P3.4: the sets with the first and the last ranks, for all sizes.
func TestFirstAndLastSets(t *testing.T) {
	for n := range 65 {
		for k := range n + 1 {
			count, _ := counting.Binomial(n, k)
			last, _ := natural.Sub(count, natural.Of(1))
			low, e1 := counting.UnrankSet(n, k, natural.Of(0))
			high, e2 := counting.UnrankSet(n, k, last)
			if e1 != api.OK || e2 != api.OK || len(low) != k || len(high) != k {
				t.Fatal(n, k, low, high, e1, e2)
			}
			for i := range k {
				if low[i] != i || high[i] != n-k+i {
					t.Fatal(n, k, low, high)
				}
			}
			rank, e := counting.RankSet(n, low)
			check(t, "first", rank, e, new(big.Int))
			rank, e = counting.RankSet(n, high)
			check(t, "last", rank, e, value(last))
			checkNone(t, n, k, count)
		}
	}
}

// P3.4: both functions are inverse and keep the order of sets below 64, where
// the ranks need almost 61 bits.
func TestLongSets(t *testing.T) {
	random := rand.New(rand.NewPCG(5, 6))
	for range 300 {
		n := 50 + random.IntN(15)
		k := random.IntN(n + 1)
		a, b := randomSet(random, n, k), randomSet(random, n, k)
		x, e := counting.RankSet(n, a)
		rank := number(t, x, e)
		y, e := counting.RankSet(n, b)
		if rank.Cmp(number(t, y, e)) != slices.Compare(a, b) {
			t.Fatal(n, a, b, x.Limbs, y.Limbs)
		}
		back, e := counting.UnrankSet(n, k, x)
		if e != api.OK || !slices.Equal(back, a) {
			t.Fatal(n, a, back, e)
		}
	}
	half := make([]int, 32)
	for i := range half {
		half[i] = 2 * i
	}
	x, e := counting.RankSet(64, half)
	y, _ := counting.Binomial(64, 32)
	if e != api.OK || natural.Cmp(x, y) >= 0 {
		t.Fatal(x.Limbs, e)
	}
	back, e := counting.UnrankSet(64, 32, x)
	if e != api.OK || !slices.Equal(back, half) {
		t.Fatal(back, e)
	}
}

// randomSet returns a set of k numbers below n.
func randomSet(random *rand.Rand, n, k int) []int {
	set := random.Perm(n)[:k]
	slices.Sort(set)
	return set
}

// P3.4: sets that follow one another have ranks that do.
func TestNextRanks(t *testing.T) {
	rank, _ := counting.Binomial(64, 32)
	rank, _, _ = natural.DivMod(rank, natural.Of(3))
	set, e := counting.UnrankSet(64, 32, rank)
	for range 300 {
		rank = natural.Add(rank, natural.Of(1))
		next, e2 := counting.UnrankSet(64, 32, rank)
		if e != api.OK || e2 != api.OK || slices.Compare(set, next) >= 0 {
			t.Fatal(rank.Limbs, set, next)
		}
		back, e := counting.RankSet(64, next)
		check(t, "RankSet", back, e, value(rank))
		set = next
	}
}

// P3.1: RankSet refuses numbers outside the limits before it looks at the set,
// and lists that are no sets below n.
func TestRankSetErrors(t *testing.T) {
	for _, n := range append([]int{65}, outside...) {
		for _, set := range [][]int{nil, {0}, {1, 0}, {-1}} {
			got, e := counting.RankSet(n, set)
			checkZero(t, "RankSet", got, e, api.ErrRange)
		}
	}
	for _, c := range []struct {
		n   int
		set []int
	}{
		{0, []int{0}}, {0, []int{-1}}, {4, []int{4}}, {4, []int{-1}}, {4, []int{-1, 2}}, {4, []int{0, 4}},
		{4, []int{1, 1}}, {4, []int{2, 1}}, {4, []int{0, 2, 1}}, {4, []int{0, 1, 2, 3, 3}}, {4, []int{0, 1, 2, 3, 4}},
		{64, []int{64}}, {64, []int{0, 63, 62}}, {64, make([]int, 100)}, {64, []int{math.MinInt}}, {64, []int{math.MaxInt, 1}}, {5, []int{3, math.MinInt}},
	} {
		got, e := counting.RankSet(c.n, c.set)
		checkZero(t, "RankSet", got, e, api.ErrArg)
	}
	got, e := counting.RankSet(5, nil)
	check(t, "RankSet(5, [])", got, e, new(big.Int))
	got, e = counting.RankSet(0, []int{})
	check(t, "RankSet(0, [])", got, e, new(big.Int))
	got, e = counting.RankSet(4, []int{0, 3})
	check(t, "RankSet(4, [0, 3])", got, e, big.NewInt(2))
}

// P3.1: UnrankSet refuses numbers outside the limits before it looks at the
// rank, and ranks that no set has.
func TestUnrankSetErrors(t *testing.T) {
	ranks := []api.Natural{{}, natural.Of(1), natural.Of(math.MaxUint64), {Limbs: []uint32{0, 0, 0, 1}}}
	for _, r := range ranks {
		for _, n := range append([]int{65}, outside...) {
			for _, k := range []int{0, 1, -1, n} {
				checkRange(t, n, k, r)
			}
		}
		for n := range 65 {
			for _, k := range append([]int{n + 1}, outside...) {
				checkRange(t, n, k, r)
			}
		}
	}
	for _, r := range ranks[1:] {
		checkNone(t, 0, 0, r)
		checkNone(t, 64, 0, r)
		checkNone(t, 64, 64, r)
	}
	for _, r := range ranks[2:] {
		checkNone(t, 64, 32, r)
	}
	checkNone(t, 4, 2, natural.Of(6))
}

func checkRange(t *testing.T, n, k int, r api.Natural) {
	t.Helper()
	got, e := counting.UnrankSet(n, k, r)
	if e != api.ErrRange || len(got) != 0 {
		t.Fatal(n, k, r.Limbs, got, e)
	}
}

// P3.1: the rank may be any natural, canonical or not, and is not changed.
func TestUnrankSetOfAnyNatural(t *testing.T) {
	for _, c := range []struct {
		n, k  int
		limbs []uint32
		want  []int
		e     api.Errno
	}{
		{4, 2, []uint32{5}, []int{2, 3}, api.OK},
		{4, 2, []uint32{5, 0, 0}, []int{2, 3}, api.OK},
		{4, 2, []uint32{0, 0}, []int{0, 1}, api.OK},
		{4, 2, []uint32{6, 0}, nil, api.ErrNone},
		{4, 0, []uint32{0}, nil, api.OK},
		{4, 4, nil, []int{0, 1, 2, 3}, api.OK},
		{64, 7, []uint32{4294967295}, nil, api.ErrNone},
	} {
		store := append(slices.Clone(c.limbs), 77, 77)
		got, e := counting.UnrankSet(c.n, c.k, api.Natural{Limbs: store[:len(c.limbs)]})
		if e != c.e || !slices.Equal(got, c.want) || !slices.Equal(store, append(slices.Clone(c.limbs), 77, 77)) {
			t.Fatal(c, got, e, store)
		}
	}
	loose := api.Natural{Limbs: []uint32{4294967295, 0}}
	set, e := counting.UnrankSet(64, 8, loose)
	if e != api.OK {
		t.Fatal(set, e)
	}
	rank, e := counting.RankSet(64, set)
	check(t, "RankSet", rank, e, value(loose))
}
