package fraction_test

import (
	"math"
	"math/big"
	"math/rand/v2"
	"slices"
	"sync"
	"testing"

	"coinage/api"
	"coinage/fraction"
)

// nat makes a natural with spare capacity, in which a write by the package
// would be found by checkKept.
func nat(limbs ...uint32) api.Natural {
	store := append(slices.Clone(limbs), 77, 77)
	return api.Natural{Limbs: store[:len(limbs)]}
}

// whole computes what a natural means without the packages.
func whole(x api.Natural) *big.Int {
	sum := new(big.Int)
	for i := len(x.Limbs) - 1; i >= 0; i-- {
		sum.Mul(sum, big.NewInt(1000000000))
		sum.Add(sum, big.NewInt(int64(x.Limbs[i])))
	}
	return sum
}

// value computes what a Fraction means without the packages.
func value(x api.Fraction) *big.Rat {
	num, den := whole(x.Num), whole(x.Den)
	if den.Sign() == 0 {
		return new(big.Rat)
	}
	if x.Neg {
		num.Neg(num)
	}
	return new(big.Rat).SetFrac(num, den)
}

// isNatural asks for canonical limbs.
func isNatural(x api.Natural) bool {
	for _, limb := range x.Limbs {
		if limb >= 1000000000 {
			return false
		}
	}
	return len(x.Limbs) == 0 || x.Limbs[len(x.Limbs)-1] != 0
}

// isCanonical asks for the one Fraction of a number.
func isCanonical(x api.Fraction) bool {
	num, den := whole(x.Num), whole(x.Den)
	common := new(big.Int).GCD(nil, nil, num, den)
	return isNatural(x.Num) && isNatural(x.Den) && den.Sign() > 0 && common.Cmp(big.NewInt(1)) == 0 && (num.Sign() != 0 || !x.Neg)
}

// check compares a result with a value, and asks that it is canonical.
func check(t *testing.T, what string, got api.Fraction, want *big.Rat) {
	t.Helper()
	if !isCanonical(got) || value(got).Cmp(want) != 0 {
		t.Fatalf("%s: got %v, want %v", what, got, want)
	}
}

// checkZero asks for the zero value that accompanies an error.
func checkZero(t *testing.T, what string, got api.Fraction, e, want api.Errno) {
	t.Helper()
	if e != want || got.Neg || len(got.Num.Limbs) != 0 || len(got.Den.Limbs) != 0 {
		t.Fatalf("%s: got %v and error %d, want error %d", what, got, e, want)
	}
}

// samples are numbers in many forms: 0 as such and by its denominator, with
// and without a sign; integers; common divisors; naturals that are not
// canonical; numbers that are close to one another, and long ones.
func samples() []api.Fraction {
	var list []api.Fraction
	forms := [][2]api.Natural{
		{}, {nat(), nat(1)}, {nat(0, 0), nat(5)}, {nat(0), nat(0, 0)}, {nat(5), nat()}, {nat(5), nat(0)}, {nat(7, 1), nat(0, 0, 0)},
		{nat(1), nat(1)}, {nat(3), nat(1, 0)}, {nat(10), nat(5)}, {nat(1), nat(2)}, {nat(2, 0), nat(4, 0)}, {nat(5), nat(2)},
		{nat(1), nat(3)}, {nat(2), nat(3)}, {nat(12), nat(18)}, {nat(999999999), nat(1000000000)},
		{nat(4294967295), nat(4294967295)}, {nat(4000000000, 0), nat(3000000000, 0)}, {nat(4294967295, 4294967295), nat(0, 4294967295, 0)},
		{nat(0, 1), nat(1)}, {nat(1), nat(0, 1)}, {nat(1, 1), nat(0, 1)}, {nat(999999999), nat(0, 1)},
		{nat(1, 0, 0, 0, 1), nat(0, 0, 0, 0, 1)}, {nat(0, 0, 0, 0, 1), nat(1, 0, 0, 0, 1)},
	}
	for _, f := range forms {
		list = append(list, api.Fraction{Num: f[0], Den: f[1]}, api.Fraction{Neg: true, Num: f[0], Den: f[1]})
	}
	random := rand.New(rand.NewPCG(1, 2))
	for n := range 8 {
		list = append(list, api.Fraction{Neg: n%2 == 0, Num: limbs(random, n), Den: limbs(random, 7-n)})
	}
	return list
}

// limbs makes a natural of random limbs; every other one is not canonical.
func limbs(random *rand.Rand, n int) api.Natural {
	list := make([]uint32, n)
	for i := range list {
		list[i] = random.Uint32()
		if i%2 == 0 {
			list[i] %= 1000000000
		}
	}
	return nat(list...)
}

// pairs calls a test for all pairs of samples.
func pairs(test func(a, b api.Fraction)) {
	list := samples()
	for _, a := range list {
		for _, b := range list {
			test(a, b)
		}
	}
}

// P2.1: Of, with both signs, a divisor 0 and the least and greatest integers.
func TestOf(t *testing.T) {
	list := []int{0, 1, -1, 2, 3, -4, 6, 18, -12, 999999999, 1000000000, -1000000001, math.MinInt, math.MinInt + 1, math.MaxInt}
	for _, n := range list {
		for _, d := range list {
			want := new(big.Rat)
			if d != 0 {
				want.SetFrac(big.NewInt(int64(n)), big.NewInt(int64(d)))
			}
			check(t, "Of", fraction.Of(n, d), want)
		}
	}
	check(t, "Of", fraction.Of(6, -4), big.NewRat(-3, 2))
}

// P2.1: Norm, Sign and Neg of numbers of all forms.
func TestNormSignNeg(t *testing.T) {
	for _, x := range samples() {
		want := value(x)
		check(t, "Norm", fraction.Norm(x), want)
		check(t, "Neg", fraction.Neg(x), new(big.Rat).Neg(want))
		if got := fraction.Sign(x); got != want.Sign() {
			t.Error("Sign", x, got)
		}
	}
}

// P2.1: Add, Sub, Mul and Cmp of all pairs.
func TestArithmetic(t *testing.T) {
	pairs(func(a, b api.Fraction) {
		x, y := value(a), value(b)
		check(t, "Add", fraction.Add(a, b), new(big.Rat).Add(x, y))
		check(t, "Sub", fraction.Sub(a, b), new(big.Rat).Sub(x, y))
		check(t, "Mul", fraction.Mul(a, b), new(big.Rat).Mul(x, y))
		if got := fraction.Cmp(a, b); got != x.Cmp(y) {
			t.Error("Cmp", a, b, got)
		}
	})
	check(t, "Add", fraction.Add(fraction.Of(1, 2), fraction.Of(1, 3)), big.NewRat(5, 6))
}

// P2.1: Div, and ErrZero for every form of 0.
func TestDiv(t *testing.T) {
	pairs(func(a, b api.Fraction) {
		x, y := value(a), value(b)
		got, e := fraction.Div(a, b)
		if y.Sign() == 0 {
			checkZero(t, "Div", got, e, api.ErrZero)
			return
		}
		check(t, "Div", got, new(big.Rat).Quo(x, y))
		if e != api.OK {
			t.Error(a, b, e)
		}
	})
	got, _ := fraction.Div(fraction.Of(1, 2), fraction.Of(-1, 3))
	check(t, "Div", got, big.NewRat(-3, 2))
}

// P2.1 and P2.3: Floor is the greatest whole number that is not above.
func TestFloor(t *testing.T) {
	list := samples()
	for n := -9; n <= 9; n++ {
		list = append(list, fraction.Of(n, 3), fraction.Of(n, 4))
	}
	for _, x := range list {
		r := value(x)
		// Euclidean division rounds down, as the divisor is above 0.
		want := new(big.Int).Div(r.Num(), r.Denom())
		floor := fraction.Floor(x)
		check(t, "Floor", floor, new(big.Rat).SetInt(want))
		if fraction.Cmp(floor, x) > 0 || fraction.Cmp(x, fraction.Add(floor, fraction.Of(1, 1))) >= 0 {
			t.Error(x, floor)
		}
	}
	check(t, "Floor", fraction.Floor(fraction.Of(-1, 2)), big.NewRat(-1, 1))
}

// P2.1 and P2.6: Sum and Mean of lists of all lengths, also of none, and of
// one that is not canonical; a mean lies between the least and the greatest.
func TestSumAndMean(t *testing.T) {
	list := samples()
	for n := range list {
		checkSumAndMean(t, list[:n])
		checkSumAndMean(t, list[n:])
		checkSumAndMean(t, list[n:n+1])
	}
	checkSumAndMean(t, nil)
	sum := fraction.Sum([]api.Fraction{fraction.Of(1, 2), fraction.Of(1, 3), fraction.Of(1, 6)})
	check(t, "Sum", sum, big.NewRat(1, 1))
	mean, _ := fraction.Mean([]api.Fraction{fraction.Of(1, 2), fraction.Of(1, 3)})
	check(t, "Mean", mean, big.NewRat(5, 12))
}

func checkSumAndMean(t *testing.T, l []api.Fraction) {
	t.Helper()
	want := new(big.Rat)
	for _, x := range l {
		want.Add(want, value(x))
	}
	check(t, "Sum", fraction.Sum(l), want)
	mean, e := fraction.Mean(l)
	if len(l) == 0 {
		checkZero(t, "Mean", mean, e, api.ErrNone)
		return
	}
	check(t, "Mean", mean, want.Quo(want, big.NewRat(int64(len(l)), 1)))
	least, greatest := slices.MinFunc(l, fraction.Cmp), slices.MaxFunc(l, fraction.Cmp)
	if e != api.OK || fraction.Cmp(least, mean) > 0 || fraction.Cmp(mean, greatest) > 0 {
		t.Error(l, mean, e)
	}
}

// P2.1: long lists of short numbers end soon, whether their sum is short or
// long.
func TestLongSums(t *testing.T) {
	const n = 2000
	var steps, reciprocals []api.Fraction
	want := new(big.Rat)
	for i := 1; i <= n; i++ {
		steps = append(steps, fraction.Of(1, i*(i+1)))
		reciprocals = append(reciprocals, fraction.Of(1, i))
		want.Add(want, big.NewRat(1, int64(i)))
	}
	check(t, "Sum", fraction.Sum(steps), big.NewRat(n, n+1))
	check(t, "Sum", fraction.Sum(reciprocals), want)
}

// P2.2: sums and products do not depend on order or grouping, products
// distribute over sums, Sub inverts Add, and Div inverts Mul.
func TestLaws(t *testing.T) {
	list := samples()
	same := func(what string, a, b api.Fraction) {
		t.Helper()
		if a.Neg != b.Neg || !slices.Equal(a.Num.Limbs, b.Num.Limbs) || !slices.Equal(a.Den.Limbs, b.Den.Limbs) {
			t.Fatal(what, a, b)
		}
	}
	pairs(func(a, b api.Fraction) {
		same("sums commute", fraction.Add(a, b), fraction.Add(b, a))
		same("products commute", fraction.Mul(a, b), fraction.Mul(b, a))
		same("Sub inverts Add", fraction.Sub(fraction.Add(a, b), b), fraction.Norm(a))
		same("Sub and Neg", fraction.Sub(a, b), fraction.Add(a, fraction.Neg(b)))
		if back, e := fraction.Div(fraction.Mul(a, b), b); e == api.OK {
			same("Div inverts Mul", back, fraction.Norm(a))
		}
		for _, c := range list {
			same("sums", fraction.Add(fraction.Add(a, b), c), fraction.Add(a, fraction.Add(b, c)))
			same("products", fraction.Mul(fraction.Mul(a, b), c), fraction.Mul(a, fraction.Mul(b, c)))
			same("both", fraction.Mul(a, fraction.Add(b, c)), fraction.Add(fraction.Mul(a, b), fraction.Mul(a, c)))
		}
	})
}

// P2.3: Cmp orders the numbers; adding a number to both sides or multiplying
// both by a positive one changes nothing.
func TestOrder(t *testing.T) {
	list := samples()
	pairs(func(a, b api.Fraction) {
		order := fraction.Cmp(a, b)
		if order < -1 || order > 1 || fraction.Cmp(b, a) != -order || fraction.Sign(fraction.Sub(a, b)) != order {
			t.Fatal(a, b, order)
		}
		for _, c := range list {
			if fraction.Cmp(fraction.Add(a, c), fraction.Add(b, c)) != order {
				t.Fatal("sums", a, b, c)
			}
			if fraction.Cmp(fraction.Mul(a, c), fraction.Mul(b, c)) != order*fraction.Sign(c) {
				t.Fatal("products", a, b, c)
			}
			if order <= 0 && fraction.Cmp(b, c) <= 0 && fraction.Cmp(a, c) > 0 {
				t.Fatal("order", a, b, c)
			}
		}
	})
}

// use calls all functions with two numbers.
func use(a, b api.Fraction) []api.Fraction {
	quotient, _ := fraction.Div(a, b)
	mean, _ := fraction.Mean([]api.Fraction{a, b})
	parsed, _ := fraction.Parse(fraction.Text(a))
	decimal, _ := fraction.Decimal(b, 20)
	read, _ := fraction.ParseDecimal(decimal)
	fraction.Cmp(a, b)
	fraction.Sign(a)
	return []api.Fraction{
		fraction.Norm(a), fraction.Norm(b), fraction.Neg(a), fraction.Floor(a), fraction.Floor(b),
		fraction.Add(a, b), fraction.Sub(a, b), fraction.Mul(a, b), quotient, mean, parsed, read,
		fraction.Sum([]api.Fraction{a}), fraction.Sum([]api.Fraction{a, b, a}), fraction.Sum(nil), fraction.Of(3, 4), fraction.Of(5, 1),
	}
}

// P2.1 and rule 5: arguments and their unused capacity stay as they are, and
// results share no memory with them or with one another.
func TestArgumentsAreKept(t *testing.T) {
	pairs(func(a, b api.Fraction) {
		a.Num, a.Den = nat(a.Num.Limbs...), nat(a.Den.Limbs...)
		b.Num, b.Den = nat(b.Num.Limbs...), nat(b.Den.Limbs...)
		parts := []api.Natural{a.Num, a.Den, b.Num, b.Den}
		var before [][]uint32
		for _, part := range parts {
			before = append(before, slices.Clone(part.Limbs))
		}
		want, results := use(a, b), use(a, b)
		for i, result := range results {
			if value(result).Cmp(value(want[i])) != 0 {
				t.Fatal("result changed", i, result, want[i])
			}
			overwrite(result.Num)
			if !slices.Equal(result.Den.Limbs, want[i].Den.Limbs) {
				t.Fatal("shared", i, result)
			}
			overwrite(result.Den)
		}
		for i, part := range parts {
			checkKept(t, part, before[i])
		}
	})
	l := []api.Fraction{fraction.Of(2, 4), {Num: nat(2), Den: nat(4)}, {Num: nat(1), Den: nat()}}
	fraction.Sum(l)
	fraction.Mean(l)
	if whole(l[1].Num).Int64() != 2 || whole(l[1].Den).Int64() != 4 || len(l[2].Den.Limbs) != 0 {
		t.Error(l)
	}
}

// overwrite writes to all memory of a result.
func overwrite(x api.Natural) {
	all := x.Limbs[:cap(x.Limbs)]
	for i := range all {
		all[i] = 123
	}
}

func checkKept(t *testing.T, x api.Natural, before []uint32) {
	t.Helper()
	spare := x.Limbs[len(x.Limbs) : len(x.Limbs)+2]
	if !slices.Equal(x.Limbs, before) || !slices.Equal(spare, []uint32{77, 77}) {
		t.Fatal(x.Limbs, spare, before)
	}
}

// P1 and rule 8: the functions end without a panic for long arguments too, and
// may be called concurrently.
func TestLongAndConcurrent(t *testing.T) {
	random := rand.New(rand.NewPCG(3, 4))
	a := api.Fraction{Num: limbs(random, 300), Den: limbs(random, 250)}
	b := api.Fraction{Neg: true, Num: limbs(random, 150), Den: limbs(random, 200)}
	sum, product := new(big.Rat).Add(value(a), value(b)), new(big.Rat).Mul(value(a), value(b))
	var group sync.WaitGroup
	for range 4 {
		group.Go(func() {
			if value(fraction.Add(a, b)).Cmp(sum) != 0 || value(fraction.Mul(a, b)).Cmp(product) != 0 {
				t.Error("long numbers")
			}
			use(b, a)
		})
	}
	group.Wait()
}
