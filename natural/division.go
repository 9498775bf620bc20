package natural

import (
	"slices"

	"coinage/api"
)

// DivMod returns the quotient and the remainder of a and b; ErrZero if b is 0.
func DivMod(a, b Natural) (Natural, Natural, Errno) {
	x, y := canon(a.Limbs), canon(b.Limbs)
	if len(y) == 0 {
		return Natural{}, Natural{}, api.ErrZero
	}
	quotient, rest := divide(x, y)
	return Natural{Limbs: quotient}, Natural{Limbs: rest}, api.OK
}

// Gcd returns the greatest common divisor of a and b; 0 if both are 0.
func Gcd(a, b Natural) Natural {
	x, y := canon(a.Limbs), canon(b.Limbs)
	for len(y) > 0 {
		if len(x) <= 2 && len(y) <= 2 {
			return Of(smallGcd(joinLimbs(x), joinLimbs(y)))
		}
		_, rest := divide(x, y)
		x, y = y, rest
	}
	return Natural{Limbs: slices.Clone(x)}
}

// joinLimbs returns the value of at most two canonical limbs.
func joinLimbs(limbs []uint32) uint64 {
	n := uint64(0)
	for i := len(limbs) - 1; i >= 0; i-- {
		n = n*base + uint64(limbs[i])
	}
	return n
}

// smallGcd spares the small numbers, at which most computations end, the work
// with lists of limbs.
func smallGcd(a, b uint64) uint64 {
	for b > 0 {
		a, b = b, a%b
	}
	return a
}

// divide divides canonical limbs by others that are not 0. Its results are
// new and canonical.
func divide(a, b []uint32) (quotient, rest []uint32) {
	if compare(a, b) < 0 {
		return nil, slices.Clone(a)
	}
	if len(b) == 1 {
		quotient, digit := divideShort(a, uint64(b[0]))
		return quotient, trim([]uint32{uint32(digit)})
	}
	return divideLong(a, b)
}

// divideShort divides limbs by a number from 1 to base - 1.
func divideShort(a []uint32, divisor uint64) (quotient []uint32, rest uint64) {
	quotient = make([]uint32, len(a))
	for i := len(a) - 1; i >= 0; i-- {
		rest = rest*base + uint64(a[i])
		quotient[i] = uint32(rest / divisor)
		rest %= divisor
	}
	return trim(quotient), rest
}

// divideLong divides limbs by others, at least two, that are not greater. Both
// are scaled first so that the first limb of the divisor is at least half of
// base: then two of its limbs suffice to guess a limb of the quotient that is
// at most 1 too great.
func divideLong(a, b []uint32) (quotient, rest []uint32) {
	n := len(b)
	scale := base / (uint64(b[n-1]) + 1)
	dividend := make([]uint32, len(a)+1)
	addMultiple(dividend, a, scale)
	divisor := make([]uint32, n+1)
	addMultiple(divisor, b, scale)
	divisor = divisor[:n]
	quotient = make([]uint32, len(a)-n+1)
	for i := len(a) - n; i >= 0; i-- {
		quotient[i] = takeMultiple(dividend[i:i+n+1], divisor)
	}
	rest, _ = divideShort(dividend[:n], scale)
	return trim(quotient), rest
}

// takeMultiple subtracts the divisor from part, which has one limb more, as
// often as possible, and returns how often that is: below base. It leaves the
// last limb of part as it was, because nobody reads it again.
func takeMultiple(part, divisor []uint32) uint32 {
	guess := guessLimb(part, divisor)
	if subtractMultiple(part, divisor, guess) {
		addBack(part, divisor)
		guess--
	}
	return uint32(guess)
}

// guessLimb divides the first three limbs of part by the first two of the
// divisor.
func guessLimb(part, divisor []uint32) uint64 {
	n := len(divisor)
	first, second := uint64(divisor[n-1]), uint64(divisor[n-2])
	top := uint64(part[n])*base + uint64(part[n-1])
	guess, rest := top/first, top%first
	for guess*second > rest*base+uint64(part[n-2]) {
		guess--
		rest += first
	}
	return guess
}

// subtractMultiple subtracts a multiple of the divisor from part, and reports
// whether the difference is below 0.
func subtractMultiple(part, divisor []uint32, factor uint64) bool {
	borrow := uint64(0)
	for i, limb := range divisor {
		borrow += factor * uint64(limb)
		take := uint32(borrow % base)
		borrow /= base
		if part[i] < take {
			part[i] += base
			borrow++
		}
		part[i] -= take
	}
	return uint64(part[len(divisor)]) < borrow
}

// addBack adds the divisor to part. The carry cancels what subtractMultiple
// borrowed from the last limb too much.
func addBack(part, divisor []uint32) {
	carry := uint32(0)
	for i, limb := range divisor {
		carry += part[i] + limb
		part[i] = carry % base
		carry /= base
	}
}
