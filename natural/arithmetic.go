package natural

import (
	"coinage/api"
)

// The limits of Pow.
const (
	maxExponent    = 256
	maxPowerDigits = 4000
)

// Add returns the sum of a and b.
func Add(a, b Natural) Natural {
	long, short := canon(a.Limbs), canon(b.Limbs)
	if len(long) < len(short) {
		long, short = short, long
	}
	sum := make([]uint32, len(long)+1)
	carry := uint32(0)
	for i, limb := range long {
		carry += limb
		if i < len(short) {
			carry += short[i]
		}
		sum[i] = carry % base
		carry /= base
	}
	sum[len(long)] = carry
	return Natural{Limbs: trim(sum)}
}

// Sub returns a - b; ErrRange if a is less than b.
func Sub(a, b Natural) (Natural, Errno) {
	x, y := canon(a.Limbs), canon(b.Limbs)
	if compare(x, y) < 0 {
		return Natural{}, api.ErrRange
	}
	difference := make([]uint32, len(x))
	borrow := uint32(0)
	for i, limb := range x {
		take := borrow
		if i < len(y) {
			take += y[i]
		}
		borrow = 0
		if limb < take {
			limb += base
			borrow = 1
		}
		difference[i] = limb - take
	}
	return Natural{Limbs: trim(difference)}, api.OK
}

// Mul returns the product of a and b.
func Mul(a, b Natural) Natural {
	return Natural{Limbs: product(canon(a.Limbs), canon(b.Limbs))}
}

// product multiplies canonical limbs.
func product(a, b []uint32) []uint32 {
	result := make([]uint32, len(a)+len(b))
	for i, limb := range a {
		addMultiple(result[i:], b, uint64(limb))
	}
	return trim(result)
}

// addMultiple adds a multiple of limbs to the lowest places of sum. The place
// after them is still 0 and takes the carry.
func addMultiple(sum, limbs []uint32, factor uint64) {
	if factor == 0 {
		return
	}
	carry := uint64(0)
	for i, limb := range limbs {
		carry += uint64(sum[i]) + factor*uint64(limb)
		sum[i] = uint32(carry % base)
		carry /= base
	}
	sum[len(limbs)] = uint32(carry)
}

// Pow returns the product of n factors a; ErrRange if n is out of its limits,
// ErrFull if the product could have more digits than are allowed.
func Pow(a Natural, n int) (Natural, Errno) {
	if n < 0 || n > maxExponent {
		return Natural{}, api.ErrRange
	}
	if Digits(a)*n > maxPowerDigits {
		return Natural{}, api.ErrFull
	}
	power := []uint32{1}
	square := canon(a.Limbs)
	for ; n > 0; n /= 2 {
		if n%2 == 1 {
			power = product(power, square)
		}
		if n > 1 {
			square = product(square, square)
		}
	}
	return Natural{Limbs: power}, api.OK
}
