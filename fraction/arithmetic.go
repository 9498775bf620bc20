package fraction

import (
	"coinage/api"
	"coinage/natural"
)

// Neg returns -x.
func Neg(x Fraction) Fraction {
	return Norm(minus(x))
}

// Add returns a + b.
func Add(a, b Fraction) Fraction {
	return Norm(sum(a, b))
}

// Sub returns a - b.
func Sub(a, b Fraction) Fraction {
	return Norm(sum(a, minus(b)))
}

// Mul returns the product of a and b.
func Mul(a, b Fraction) Fraction {
	return Norm(product(a, b))
}

// Div returns the quotient of a and b; ErrZero if b is 0.
func Div(a, b Fraction) (Fraction, Errno) {
	if Sign(b) == 0 {
		return Fraction{}, api.ErrZero
	}
	return Norm(product(a, Fraction{Neg: b.Neg, Num: b.Den, Den: b.Num})), api.OK
}

// Floor returns the greatest whole number that is at most x.
func Floor(x Fraction) Fraction {
	x = proper(x)
	whole, rest, _ := natural.DivMod(x.Num, x.Den)
	if x.Neg && !isZero(rest) {
		whole = natural.Add(whole, natural.Of(1))
	}
	return Norm(Fraction{Neg: x.Neg, Num: whole, Den: natural.Of(1)})
}

// Sum returns the sum of all numbers of l, 0 if there are none. It adds halves
// of the list, so that most additions are those of short numbers.
func Sum(l []Fraction) Fraction {
	switch len(l) {
	case 0:
		return Of(0, 1)
	case 1:
		return Norm(l[0])
	}
	half := len(l) / 2
	return Add(Sum(l[:half]), Sum(l[half:]))
}

// Mean returns the mean of the numbers of l; ErrNone if there are none.
func Mean(l []Fraction) (Fraction, Errno) {
	if len(l) == 0 {
		return Fraction{}, api.ErrNone
	}
	return Mul(Sum(l), Of(1, len(l))), api.OK
}

// The following results are not canonical and may share memory with the
// arguments: a function that returns one to a caller gives it to Norm first.

// minus returns -x.
func minus(x Fraction) Fraction {
	x.Neg = !x.Neg
	return x
}

// product returns the product of a and b. If the denominator of one of them is
// 0, so is that of the product, which therefore is 0 as it should be.
func product(a, b Fraction) Fraction {
	return Fraction{Neg: a.Neg != b.Neg, Num: natural.Mul(a.Num, b.Num), Den: natural.Mul(a.Den, b.Den)}
}

// sum returns a + b.
func sum(a, b Fraction) Fraction {
	a, b = proper(a), proper(b)
	left, right := natural.Mul(a.Num, b.Den), natural.Mul(b.Num, a.Den)
	den := natural.Mul(a.Den, b.Den)
	if a.Neg == b.Neg {
		return Fraction{Neg: a.Neg, Num: natural.Add(left, right), Den: den}
	}
	if natural.Cmp(left, right) < 0 {
		a, left, right = b, right, left
	}
	num, _ := natural.Sub(left, right)
	return Fraction{Neg: a.Neg, Num: num, Den: den}
}
