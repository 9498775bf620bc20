// Package natural is layer 1: see shared/doc/01-natural.md.
package natural

import (
	"math/bits"
	"slices"

	"coinage/api"
)

// The types of package api that this layer uses.
type (
	Errno   = api.Errno
	Natural = api.Natural
)

// base is the number of values of a canonical limb.
const base = 1000000000

// Of returns the natural with the value n.
func Of(n uint64) Natural {
	var limbs []uint32
	for ; n > 0; n /= base {
		limbs = append(limbs, uint32(n%base))
	}
	return Natural{Limbs: limbs}
}

// Small returns the value of x and true if it is below 2^64.
func Small(x Natural) (uint64, bool) {
	limbs := canon(x.Limbs)
	n := uint64(0)
	for i := len(limbs) - 1; i >= 0; i-- {
		high, low := bits.Mul64(n, base)
		sum, carry := bits.Add64(low, uint64(limbs[i]), 0)
		if high != 0 || carry != 0 {
			return 0, false
		}
		n = sum
	}
	return n, true
}

// Norm returns the canonical natural with the value of x.
func Norm(x Natural) Natural {
	return Natural{Limbs: slices.Clone(canon(x.Limbs))}
}

// Cmp returns -1, 0 or 1 if a is less than, equal to, or greater than b.
func Cmp(a, b Natural) int {
	return compare(canon(a.Limbs), canon(b.Limbs))
}

// canon returns the canonical limbs of a value. They may be those of the
// argument itself, so that nobody may write to them or hand them out.
func canon(limbs []uint32) []uint32 {
	limbs = trim(limbs)
	if !slices.ContainsFunc(limbs, tooBig) {
		return limbs
	}
	result := make([]uint32, len(limbs)+1)
	carry := uint64(0)
	for i, limb := range limbs {
		carry += uint64(limb)
		result[i] = uint32(carry % base)
		carry /= base
	}
	result[len(limbs)] = uint32(carry)
	return trim(result)
}

// tooBig reports whether a limb is not canonical.
func tooBig(limb uint32) bool { return limb >= base }

// trim leaves out the leading limbs that are 0.
func trim(limbs []uint32) []uint32 {
	n := len(limbs)
	for n > 0 && limbs[n-1] == 0 {
		n--
	}
	return limbs[:n]
}

// compare compares canonical limbs.
func compare(a, b []uint32) int {
	if len(a) != len(b) {
		return sign(len(a) < len(b))
	}
	for i := len(a) - 1; i >= 0; i-- {
		if a[i] != b[i] {
			return sign(a[i] < b[i])
		}
	}
	return 0
}

// sign returns the result of a comparison of different values.
func sign(less bool) int {
	if less {
		return -1
	}
	return 1
}
