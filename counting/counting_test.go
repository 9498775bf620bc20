package counting_test

import (
	"math"
	"math/big"
	"sync"
	"testing"

	"coinage/api"
	"coinage/counting"
	"coinage/natural"
)

// outside are numbers that no limit permits.
var outside = []int{-1, -2, math.MinInt, math.MaxInt}

// value computes what a natural means without the packages.
func value(x api.Natural) *big.Int {
	sum := new(big.Int)
	for i := len(x.Limbs) - 1; i >= 0; i-- {
		sum.Mul(sum, big.NewInt(1000000000))
		sum.Add(sum, big.NewInt(int64(x.Limbs[i])))
	}
	return sum
}

func isCanonical(x api.Natural) bool {
	for _, limb := range x.Limbs {
		if limb >= 1000000000 {
			return false
		}
	}
	return len(x.Limbs) == 0 || x.Limbs[len(x.Limbs)-1] != 0
}

// number asks that a result is no error and canonical, and returns its value.
func number(t *testing.T, x api.Natural, e api.Errno) *big.Int {
	t.Helper()
	if e != api.OK || !isCanonical(x) {
		t.Fatalf("got %v and error %d", x.Limbs, e)
	}
	return value(x)
}

// check compares a result with a value, and asks that it is canonical.
func check(t *testing.T, what string, got api.Natural, e api.Errno, want *big.Int) {
	t.Helper()
	if e != api.OK || !isCanonical(got) || value(got).Cmp(want) != 0 {
		t.Fatalf("%s: got %v and error %d, want %v", what, got.Limbs, e, want)
	}
}

// checkZero asks for the zero value that accompanies an error.
func checkZero(t *testing.T, what string, got api.Natural, e, want api.Errno) {
	t.Helper()
	if e != want || len(got.Limbs) != 0 {
		t.Fatalf("%s: got %v and error %d, want error %d", what, got.Limbs, e, want)
	}
}

// checkRefused asks a function of one number for ErrRange outside its limit.
func checkRefused(t *testing.T, what string, f func(int) (api.Natural, api.Errno), limit int) {
	t.Helper()
	for _, n := range append([]int{limit + 1}, outside...) {
		got, e := f(n)
		checkZero(t, what, got, e, api.ErrRange)
	}
}

// fixed makes a function of one number from one of two.
func fixed(f func(n, k int) (api.Natural, api.Errno), k int) func(int) (api.Natural, api.Errno) {
	return func(n int) (api.Natural, api.Errno) { return f(n, k) }
}

// turned makes a function of one number from the second of two.
func turned(f func(n, k int) (api.Natural, api.Errno), n int) func(int) (api.Natural, api.Errno) {
	return func(k int) (api.Natural, api.Errno) { return f(n, k) }
}

// times returns the product of the numbers from low to high.
func times(low, high int) *big.Int {
	result := big.NewInt(1)
	for n := low; n <= high; n++ {
		result.Mul(result, big.NewInt(int64(n)))
	}
	return result
}

// P3.1: Factorial, for all arguments that are permitted, and next to them.
func TestFactorial(t *testing.T) {
	for n := range 201 {
		got, e := counting.Factorial(n)
		check(t, "Factorial", got, e, times(1, n))
	}
	checkRefused(t, "Factorial", counting.Factorial, 200)
}

// P3.1: Binomial, also for k outside 0 to n, where it is 0 and no error.
func TestBinomial(t *testing.T) {
	for n := range 301 {
		for k := range n + 1 {
			got, e := counting.Binomial(n, k)
			check(t, "Binomial", got, e, new(big.Int).Binomial(int64(n), int64(k)))
		}
		for _, k := range append([]int{n + 1, n + 300}, outside...) {
			got, e := counting.Binomial(n, k)
			check(t, "Binomial outside", got, e, new(big.Int))
		}
	}
	for _, k := range append([]int{0, 1, 300, 301}, outside...) {
		checkRefused(t, "Binomial", fixed(counting.Binomial, k), 300)
	}
	got, e := counting.Binomial(6, 3)
	check(t, "Binomial(6, 3)", got, e, big.NewInt(20))
}

// P3.1: Falling, with 0 for k above n, and errors of both arguments.
func TestFalling(t *testing.T) {
	for n := range 201 {
		for k := range 201 {
			want := new(big.Int)
			if k <= n {
				want = times(n-k+1, n)
			}
			got, e := counting.Falling(n, k)
			check(t, "Falling", got, e, want)
		}
		checkRefused(t, "Falling", fixed(counting.Falling, n), 200)
		checkRefused(t, "Falling", turned(counting.Falling, n), 200)
	}
	checkRefused(t, "Falling", fixed(counting.Falling, -1), 200)
	got, e := counting.Falling(5, 2)
	check(t, "Falling(5, 2)", got, e, big.NewInt(20))
}

// onto computes the number of functions from n objects onto k objects by
// inclusion and exclusion, which the package does not use.
func onto(n, k int) *big.Int {
	sum := new(big.Int)
	for missing := range k + 1 {
		term := new(big.Int).Exp(big.NewInt(int64(k-missing)), big.NewInt(int64(n)), nil)
		term.Mul(term, new(big.Int).Binomial(int64(k), int64(missing)))
		if missing%2 == 1 {
			term.Neg(term)
		}
		sum.Add(sum, term)
	}
	return sum
}

// P3.1: Stirling and Surjections, for all arguments that are permitted.
func TestStirlingAndSurjections(t *testing.T) {
	for n := range 65 {
		for k := range 65 {
			functions := onto(n, k)
			got, e := counting.Surjections(n, k)
			check(t, "Surjections", got, e, functions)
			got, e = counting.Stirling(n, k)
			check(t, "Stirling", got, e, functions.Div(functions, times(1, k)))
		}
	}
	got, e := counting.Stirling(4, 2)
	check(t, "Stirling(4, 2)", got, e, big.NewInt(7))
	got, e = counting.Surjections(4, 2)
	check(t, "Surjections(4, 2)", got, e, big.NewInt(14))
	got, e = counting.Surjections(3, 3)
	check(t, "Surjections(3, 3)", got, e, big.NewInt(6))
	got, e = counting.Surjections(0, 0)
	check(t, "Surjections(0, 0)", got, e, big.NewInt(1))
}

// P3.1: a k outside the limits is an error for Surjections only; Stirling is 0.
func TestStirlingOutside(t *testing.T) {
	for n := range 65 {
		for _, k := range append([]int{n + 1, 65, 200}, outside...) {
			got, e := counting.Stirling(n, k)
			check(t, "Stirling outside", got, e, new(big.Int))
		}
		checkRefused(t, "Stirling", fixed(counting.Stirling, n), 64)
		checkRefused(t, "Surjections", fixed(counting.Surjections, n), 64)
		checkRefused(t, "Surjections", turned(counting.Surjections, n), 64)
	}
	for _, k := range append([]int{65}, outside...) {
		checkRefused(t, "Stirling", fixed(counting.Stirling, k), 64)
		checkRefused(t, "Surjections", fixed(counting.Surjections, k), 64)
	}
}

// countParts counts the partitions of some more objects by the number of their
// parts, where there are parts already.
func countParts(more, parts int, counts []int64) {
	if more == 0 {
		counts[parts]++
		return
	}
	for range parts {
		countParts(more-1, parts, counts)
	}
	countParts(more-1, parts+1, counts)
}

// P3.1: Stirling and Bell count partitions, which are listed here one by one.
func TestPartitionsOneByOne(t *testing.T) {
	for n := range 11 {
		counts := make([]int64, n+1)
		countParts(n, 0, counts)
		all := int64(0)
		for k, want := range counts {
			got, e := counting.Stirling(n, k)
			check(t, "Stirling", got, e, big.NewInt(want))
			all += want
		}
		got, e := counting.Bell(n)
		check(t, "Bell", got, e, big.NewInt(all))
	}
}

// P3.1: Bell, with known values and errors.
func TestBell(t *testing.T) {
	for n, want := range []int64{1, 1, 2, 5, 15, 52, 203, 877, 4140, 21147, 115975} {
		got, e := counting.Bell(n)
		check(t, "Bell", got, e, big.NewInt(want))
	}
	got, e := counting.Bell(25)
	check(t, "Bell(25)", got, e, big.NewInt(4638590332229999353))
	checkRefused(t, "Bell", counting.Bell, 64)
}

// P3.2: Binomial is symmetric, each one is the sum of two others, and Falling
// counts the orders of each set.
func TestBinomialLaws(t *testing.T) {
	binomial := func(n, k int) *big.Int {
		x, e := counting.Binomial(n, k)
		return number(t, x, e)
	}
	for n := range 301 {
		for k := -2; k <= n+2; k++ {
			if binomial(n, k).Cmp(binomial(n, n-k)) != 0 {
				t.Fatal("symmetry", n, k)
			}
			if n == 300 {
				continue
			}
			sum := new(big.Int).Add(binomial(n, k), binomial(n, k+1))
			if binomial(n+1, k+1).Cmp(sum) != 0 {
				t.Fatal("sum", n, k)
			}
		}
	}
	for n := range 201 {
		for k := range 201 {
			orders, e := counting.Factorial(k)
			want := new(big.Int).Mul(binomial(n, k), number(t, orders, e))
			got, e := counting.Falling(n, k)
			check(t, "Falling", got, e, want)
		}
	}
}

// P3.3: the recurrence of Stirling, and Bell as a sum.
func TestStirlingLaws(t *testing.T) {
	stirling := func(n, k int) *big.Int {
		x, e := counting.Stirling(n, k)
		return number(t, x, e)
	}
	for n := range 65 {
		all := new(big.Int)
		for k := -1; k <= n+1; k++ {
			all.Add(all, stirling(n, k))
			if n == 64 {
				continue
			}
			want := new(big.Int).Mul(big.NewInt(int64(k+1)), stirling(n, k+1))
			want.Add(want, stirling(n, k))
			if stirling(n+1, k+1).Cmp(want) != 0 {
				t.Fatal(n, k)
			}
		}
		got, e := counting.Bell(n)
		check(t, "Bell", got, e, all)
	}
}

// P3.3: powers are sums of products of Stirling and Falling.
func TestPowersByStirling(t *testing.T) {
	for n := 0; n <= 64; n += 4 {
		for x := 0; x <= 200; x += 8 {
			sum := natural.Of(0)
			for k := range n + 1 {
				parts, _ := counting.Stirling(n, k)
				lists, _ := counting.Falling(x, k)
				sum = natural.Add(sum, natural.Mul(parts, lists))
			}
			want := new(big.Int).Exp(big.NewInt(int64(x)), big.NewInt(int64(n)), nil)
			check(t, "power", sum, api.OK, want)
		}
	}
}

// Results are new memory, and calls at the same time do not disturb each other.
func TestResultsAreNew(t *testing.T) {
	var group sync.WaitGroup
	for range 8 {
		group.Go(func() {
			for range 20 {
				for _, x := range results() {
					clear(x.Limbs[:cap(x.Limbs)])
				}
			}
		})
	}
	group.Wait()
	want := []int64{720, 20, 20, 7, 14, 15, 2}
	for i, x := range results() {
		check(t, "result", x, api.OK, big.NewInt(want[i]))
	}
}

// results returns a result of each function that returns a natural.
func results() []api.Natural {
	factorial, _ := counting.Factorial(6)
	binomial, _ := counting.Binomial(6, 3)
	falling, _ := counting.Falling(5, 2)
	stirling, _ := counting.Stirling(4, 2)
	surjections, _ := counting.Surjections(4, 2)
	bell, _ := counting.Bell(4)
	rank, _ := counting.RankSet(4, []int{0, 3})
	return []api.Natural{factorial, binomial, falling, stirling, surjections, bell, rank}
}
