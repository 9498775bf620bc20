package natural_test

import (
	"math"
	"math/big"
	"math/rand/v2"
	"slices"
	"strings"
	"sync"
	"testing"

	"coinage/api"
	"coinage/natural"
)

const limbBase = 1000000000

// nat makes a natural with spare capacity, in which a write by the package
// would be found by checkKept.
func nat(limbs ...uint32) api.Natural {
	store := append(slices.Clone(limbs), 77, 77)
	return api.Natural{Limbs: store[:len(limbs)]}
}

// value computes what a natural means without the package.
func value(x api.Natural) *big.Int {
	sum := new(big.Int)
	for i := len(x.Limbs) - 1; i >= 0; i-- {
		sum.Mul(sum, big.NewInt(limbBase))
		sum.Add(sum, big.NewInt(int64(x.Limbs[i])))
	}
	return sum
}

func isCanonical(x api.Natural) bool {
	for _, limb := range x.Limbs {
		if limb >= limbBase {
			return false
		}
	}
	return len(x.Limbs) == 0 || x.Limbs[len(x.Limbs)-1] != 0
}

// check compares a result with a value, and asks that it is canonical.
func check(t *testing.T, what string, got api.Natural, want *big.Int) {
	t.Helper()
	if !isCanonical(got) || value(got).Cmp(want) != 0 {
		t.Fatalf("%s: got %v, want %v", what, got.Limbs, want)
	}
}

// checkZero asks for the zero value that accompanies an error.
func checkZero(t *testing.T, what string, got api.Natural, e, want api.Errno) {
	t.Helper()
	if e != want || len(got.Limbs) != 0 {
		t.Fatalf("%s: got %v and error %d, want error %d", what, got.Limbs, e, want)
	}
}

// samples are the naturals at which carries, borrows and guesses go wrong,
// with long and short, canonical and other ones.
func samples() []api.Natural {
	list := []api.Natural{
		{}, {Limbs: []uint32{}}, nat(0), nat(0, 0, 0),
		nat(1), nat(2), nat(9), nat(10), nat(999999999), nat(1, 0),
		nat(1000000000), nat(4294967295), nat(4000000000, 0), nat(0, 1), nat(0, 1, 0, 0),
		nat(999999999, 999999999), nat(1000000000, 999999999), nat(4294967295, 4294967295),
		nat(709551615, 446744073, 18), nat(709551616, 446744073, 18), nat(709551617, 446744073, 18, 0),
		nat(999999999, 0, 500000000), nat(5, 0, 500000000), nat(0, 0, 1), nat(0, 0, 0, 1),
		nat(0, 500000000), nat(999999999, 499999999), nat(999999999, 999999999, 999999999, 999999999),
		nat(4294967295, 4294967295, 4294967295, 4294967295, 0, 0),
	}
	random := rand.New(rand.NewPCG(1, 2))
	for n := range 12 {
		limbs := make([]uint32, n)
		for i := range limbs {
			limbs[i] = random.Uint32()
			if n%2 == 0 {
				limbs[i] %= limbBase
			}
		}
		list = append(list, nat(limbs...))
	}
	return list
}

// pairs calls a test for all pairs of samples.
func pairs(test func(a, b api.Natural)) {
	list := samples()
	for _, a := range list {
		for _, b := range list {
			test(a, b)
		}
	}
}

// P1.1: Of and Small, up to 2^64 and above it.
func TestOfAndSmall(t *testing.T) {
	for _, n := range []uint64{0, 1, 5, 999999999, 1000000000, 1000000007, 999999999999999999, 1000000000000000000, math.MaxUint32, math.MaxInt64, math.MaxUint64} {
		x := natural.Of(n)
		check(t, "Of", x, new(big.Int).SetUint64(n))
		if back, ok := natural.Small(x); back != n || !ok {
			t.Error(n, back, ok)
		}
	}
	for _, x := range samples() {
		want := value(x)
		got, ok := natural.Small(x)
		if ok != want.IsUint64() || ok && got != want.Uint64() || !ok && got != 0 {
			t.Error(x.Limbs, got, ok)
		}
	}
	if n, ok := natural.Small(nat(7, 0)); n != 7 || !ok {
		t.Error(n, ok)
	}
	for _, x := range []api.Natural{nat(709551616, 446744073, 18), nat(0, 0, 19), nat(0, 0, 0, 1), nat(0, 4294967295, 4294967295), nat(4294967295, 446744070, 18)} {
		if n, ok := natural.Small(x); n != 0 || ok {
			t.Error(x.Limbs, n, ok)
		}
	}
}

// P1.1: Norm, also of limbs of 10^9 or more and of leading zeros.
func TestNorm(t *testing.T) {
	for _, x := range samples() {
		check(t, "Norm", natural.Norm(x), value(x))
	}
	for _, c := range []struct{ from, want []uint32 }{
		{nil, nil},
		{[]uint32{0, 0}, nil},
		{[]uint32{4000000000, 0}, []uint32{0, 4}},
		{[]uint32{1000000000, 999999999}, []uint32{0, 0, 1}},
		{[]uint32{4294967295, 4294967295}, []uint32{294967295, 294967299, 4}},
	} {
		if got := natural.Norm(nat(c.from...)); !slices.Equal(got.Limbs, c.want) {
			t.Error(c.from, got.Limbs)
		}
	}
	long := make([]uint32, 100000)
	long[1] = 3
	if got := natural.Norm(api.Natural{Limbs: long}); !slices.Equal(got.Limbs, []uint32{0, 3}) {
		t.Error(got.Limbs)
	}
}

// P1.1: Cmp compares values, not limbs.
func TestCmp(t *testing.T) {
	pairs(func(a, b api.Natural) {
		if got, want := natural.Cmp(a, b), value(a).Cmp(value(b)); got != want {
			t.Error(a.Limbs, b.Limbs, got, want)
		}
	})
	if natural.Cmp(natural.Of(2), natural.Of(9)) != -1 || natural.Cmp(nat(1000000000), nat(0, 1, 0)) != 0 {
		t.Error("Cmp")
	}
}

// P1.1: Add, Sub and Mul.
func TestSumsAndProducts(t *testing.T) {
	pairs(func(a, b api.Natural) {
		x, y := value(a), value(b)
		check(t, "Add", natural.Add(a, b), new(big.Int).Add(x, y))
		check(t, "Mul", natural.Mul(a, b), new(big.Int).Mul(x, y))
		difference, e := natural.Sub(a, b)
		if x.Cmp(y) < 0 {
			checkZero(t, "Sub", difference, e, api.ErrRange)
			return
		}
		check(t, "Sub", difference, new(big.Int).Sub(x, y))
		if e != api.OK {
			t.Error(a.Limbs, b.Limbs, e)
		}
	})
	got, e := natural.Sub(natural.Of(2), natural.Of(5))
	checkZero(t, "Sub", got, e, api.ErrRange)
}

// P1.1: DivMod, and ErrZero for a divisor 0 of any form.
func TestDivMod(t *testing.T) {
	pairs(func(a, b api.Natural) { checkDivMod(t, a, b) })
	q, r, e := natural.DivMod(natural.Of(17), natural.Of(5))
	check(t, "quotient", q, big.NewInt(3))
	check(t, "rest", r, big.NewInt(2))
	if e != api.OK {
		t.Error(e)
	}
}

func checkDivMod(t *testing.T, a, b api.Natural) {
	t.Helper()
	x, y := value(a), value(b)
	q, r, e := natural.DivMod(a, b)
	if y.Sign() == 0 {
		checkZero(t, "quotient", q, e, api.ErrZero)
		checkZero(t, "rest", r, e, api.ErrZero)
		return
	}
	wantQ, wantR := new(big.Int).QuoRem(x, y, new(big.Int))
	check(t, "quotient", q, wantQ)
	check(t, "rest", r, wantR)
	if e != api.OK {
		t.Error(a.Limbs, b.Limbs, e)
	}
}

// P1.1: DivMod where the guess of a limb is too great. The divisors are such
// that their first limbs say less than the last one; the dividends lie just
// below and above multiples of them.
func TestDivModWrongGuesses(t *testing.T) {
	divisors := []api.Natural{nat(999999999, 0, 500000000), nat(1, 0, 500000000), nat(999999999, 500000000), nat(999999999, 999999999, 999999999), nat(999999999, 999999999, 1), nat(1, 0, 0, 1), nat(0, 0, 500000001)}
	factors := []api.Natural{nat(1), nat(2), nat(999999998), nat(999999999), nat(0, 1), nat(999999999, 999999999), nat(998000000, 999999999, 1)}
	for _, b := range divisors {
		for _, f := range factors {
			product := natural.Mul(b, f)
			below, _ := natural.Sub(product, natural.Of(1))
			checkDivMod(t, product, b)
			checkDivMod(t, below, b)
			checkDivMod(t, natural.Add(product, natural.Of(1)), b)
		}
	}
	random := rand.New(rand.NewPCG(3, 4))
	for range 20000 {
		checkDivMod(t, extreme(random, 6), extreme(random, 3))
	}
}

// extreme makes naturals of limbs that are near 0, half of the base, or the
// base.
func extreme(random *rand.Rand, most int) api.Natural {
	limbs := make([]uint32, 1+random.IntN(most))
	for i := range limbs {
		centre := []uint32{2, 500000000, 999999998}[random.IntN(3)]
		limbs[i] = centre - 2 + random.Uint32N(4)
	}
	return nat(limbs...)
}

// P1.1: Gcd, with 0 on either side.
func TestGcd(t *testing.T) {
	common := nat(123456789, 987654321, 55)
	pairs(func(a, b api.Natural) {
		check(t, "Gcd", natural.Gcd(a, b), gcd(value(a), value(b)))
		a, b = natural.Mul(a, common), natural.Mul(b, common)
		check(t, "Gcd", natural.Gcd(a, b), gcd(value(a), value(b)))
	})
	check(t, "Gcd", natural.Gcd(natural.Of(12), natural.Of(18)), big.NewInt(6))
	check(t, "Gcd", natural.Gcd(nat(0), nat()), big.NewInt(0))
	check(t, "Gcd", natural.Gcd(nat(4000000000, 0), nat()), big.NewInt(4000000000))
}

func gcd(a, b *big.Int) *big.Int { return new(big.Int).GCD(nil, nil, a, b) }

// P1.1: Pow at the limits of its exponent and of the digits.
func TestPow(t *testing.T) {
	digits15, digits16 := natural.Of(100000000000000), natural.Of(1000000000000000)
	long, _ := natural.Parse(strings.Repeat("9", 4000))
	longer := natural.Add(long, natural.Of(1))
	for i, c := range []struct {
		a    api.Natural
		n    int
		want api.Errno
	}{
		{natural.Of(2), 10, 0}, {nat(), 0, 0}, {nat(0, 0), 1, 0}, {nat(0), 256, 0}, {nat(0), 257, api.ErrRange},
		{natural.Of(1), 256, 0}, {natural.Of(7), 255, 0}, {natural.Of(7), 256, 0}, {nat(7, 0, 0), 3, 0}, {nat(4294967295), 9, 0},
		{natural.Of(7), 257, api.ErrRange}, {natural.Of(7), -1, api.ErrRange},
		{natural.Of(7), math.MinInt, api.ErrRange}, {natural.Of(7), math.MaxInt, api.ErrRange},
		{digits15, 256, 0}, {digits16, 250, 0}, {digits16, 251, api.ErrFull}, {digits16, 256, api.ErrFull}, {digits16, 257, api.ErrRange},
		{long, 1, 0}, {longer, 1, api.ErrFull}, {longer, 0, 0}, {longer, -1, api.ErrRange}, {long, 2, api.ErrFull},
	} {
		got, e := natural.Pow(c.a, c.n)
		if c.want != api.OK {
			checkZero(t, "Pow", got, e, c.want)
			continue
		}
		check(t, "Pow", got, new(big.Int).Exp(value(c.a), big.NewInt(int64(c.n)), nil))
		if e != api.OK {
			t.Error(i, e)
		}
	}
}

// P1.1: Digits and Text, also of naturals that are not canonical.
func TestDigitsAndText(t *testing.T) {
	for _, x := range samples() {
		want := value(x).String()
		if got := natural.Text(x); got != want {
			t.Error(x.Limbs, got, want)
		}
		if got := natural.Digits(x); got != len(want) {
			t.Error(x.Limbs, got)
		}
	}
	for n := 1; n <= 40; n++ {
		x, _ := natural.Pow(natural.Of(10), n)
		below, _ := natural.Sub(x, natural.Of(1))
		if natural.Digits(x) != n+1 || natural.Digits(below) != n || natural.Text(below) != strings.Repeat("9", n) {
			t.Error(n)
		}
	}
	if natural.Text(nat(7, 1)) != "1000000007" || natural.Text(nat(0, 0)) != "0" || natural.Digits(nat(0, 0)) != 1 {
		t.Error("Text")
	}
}

// P1.1: Parse refuses what is no Text.
func TestParseErrors(t *testing.T) {
	for _, s := range []string{"", "00", "007", "01", "-1", "+1", "-0", " 1", "1 ", "1\n", "x", "1x", "1_000", "0x1", "1.0", "1e3", "\u0661", "/", ":", "1/", "1:", "123456789:123456789", "\x00", strings.Repeat("0", 4000), strings.Repeat("9", 3999) + "x"} {
		got, e := natural.Parse(s)
		checkZero(t, s, got, e, api.ErrForm)
	}
	for _, s := range []string{strings.Repeat("9", 4001), strings.Repeat("0", 4001), strings.Repeat("x", 4001), strings.Repeat("1", 100000)} {
		got, e := natural.Parse(s)
		checkZero(t, "long", got, e, api.ErrFull)
	}
}

// P1.2: sums and products do not depend on order or grouping, and products
// distribute over sums; Sub undoes Add.
func TestLaws(t *testing.T) {
	list := samples()
	same := func(what string, a, b api.Natural) {
		t.Helper()
		if !slices.Equal(a.Limbs, b.Limbs) {
			t.Fatal(what, a.Limbs, b.Limbs)
		}
	}
	pairs(func(a, b api.Natural) {
		same("sums commute", natural.Add(a, b), natural.Add(b, a))
		same("products commute", natural.Mul(a, b), natural.Mul(b, a))
		back, e := natural.Sub(natural.Add(a, b), b)
		same("Sub undoes Add", back, natural.Norm(a))
		if e != api.OK {
			t.Error(e)
		}
		for _, c := range list {
			same("sums", natural.Add(natural.Add(a, b), c), natural.Add(a, natural.Add(b, c)))
			same("products", natural.Mul(natural.Mul(a, b), c), natural.Mul(a, natural.Mul(b, c)))
			same("both", natural.Mul(a, natural.Add(b, c)), natural.Add(natural.Mul(a, b), natural.Mul(a, c)))
		}
	})
}

// P1.3: powers of sums of exponents are products of powers.
func TestPowLaw(t *testing.T) {
	for _, a := range samples() {
		for m := range 9 {
			for n := range 9 {
				x, e1 := natural.Pow(a, m)
				y, e2 := natural.Pow(a, n)
				z, e3 := natural.Pow(a, m+n)
				if e1 != api.OK || e2 != api.OK || e3 != api.OK {
					t.Fatal(e1, e2, e3)
				}
				check(t, "Pow", z, value(natural.Mul(x, y)))
			}
		}
	}
	x, _ := natural.Pow(natural.Of(19), 128)
	y, e := natural.Pow(natural.Of(19), 256)
	if check(t, "Pow", y, value(natural.Mul(x, x))); e != api.OK {
		t.Error(e)
	}
}

// P1.4: Parse inverts Text up to 4000 bytes.
func TestParseInvertsText(t *testing.T) {
	list := samples()
	for _, n := range []int{1, 8, 9, 10, 17, 18, 19, 3998, 3999, 4000} {
		ten, _ := natural.Parse("1" + strings.Repeat("0", n-1))
		nines, _ := natural.Parse(strings.Repeat("9", n))
		list = append(list, ten, nines)
		if natural.Digits(ten) != n || natural.Digits(nines) != n {
			t.Error(n)
		}
	}
	for _, x := range list {
		text := natural.Text(x)
		back, e := natural.Parse(text)
		if check(t, "Parse", back, value(x)); e != api.OK {
			t.Error(e)
		}
		if natural.Text(back) != text {
			t.Error(text)
		}
	}
}

// use calls all functions with two naturals.
func use(a, b api.Natural) []api.Natural {
	sub, _ := natural.Sub(a, b)
	q, r, _ := natural.DivMod(a, b)
	pow, _ := natural.Pow(a, 3)
	one, _ := natural.Pow(a, 1)
	natural.Cmp(a, b)
	natural.Small(a)
	natural.Digits(a)
	natural.Text(a)
	return []api.Natural{natural.Norm(a), natural.Add(a, b), sub, natural.Mul(a, b), q, r, natural.Gcd(a, b), pow, one}
}

// P1.1 and rule 5: arguments and their unused capacity stay as they are, and
// results share no memory with them or with one another.
func TestArgumentsAreKept(t *testing.T) {
	pairs(func(a, b api.Natural) {
		a, b = nat(a.Limbs...), nat(b.Limbs...)
		beforeA, beforeB := slices.Clone(a.Limbs), slices.Clone(b.Limbs)
		for _, result := range use(a, b) {
			whole := result.Limbs[:cap(result.Limbs)]
			for i := range whole {
				whole[i] = 123
			}
		}
		checkKept(t, a, beforeA)
		checkKept(t, b, beforeB)
	})
	q, r, _ := natural.DivMod(nat(5, 0, 3), nat(0, 2))
	before := slices.Clone(r.Limbs)
	for i := range q.Limbs[:cap(q.Limbs)] {
		q.Limbs[:cap(q.Limbs)][i] = 123
	}
	if !slices.Equal(r.Limbs, before) {
		t.Error(r.Limbs)
	}
}

func checkKept(t *testing.T, x api.Natural, before []uint32) {
	t.Helper()
	spare := x.Limbs[len(x.Limbs) : len(x.Limbs)+2]
	if !slices.Equal(x.Limbs, before) || !slices.Equal(spare, []uint32{77, 77}) {
		t.Fatal(x.Limbs, spare, before)
	}
}

// P1 and rule 8: all functions end without a panic, for long arguments too,
// and may be called concurrently.
func TestLongAndConcurrent(t *testing.T) {
	long := make([]uint32, 1500)
	other := make([]uint32, 700)
	for i := range long {
		long[i] = uint32(i) * 2654435761
	}
	copy(other, long[300:])
	a, b := api.Natural{Limbs: long}, api.Natural{Limbs: other}
	var group sync.WaitGroup
	for range 4 {
		group.Go(func() {
			results := use(a, b)
			back := natural.Add(natural.Mul(results[4], b), results[5])
			if natural.Cmp(back, a) != 0 || natural.Cmp(results[5], b) >= 0 {
				t.Error("DivMod of long naturals")
			}
		})
	}
	group.Wait()
}
