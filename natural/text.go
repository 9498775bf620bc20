package natural

import (
	"strconv"

	"coinage/api"
)

// The forms of texts: a limb has nine digits.
const (
	limbDigits = 9
	maxText    = 4000
)

// Digits returns the number of decimal digits of x.
func Digits(x Natural) int {
	limbs := canon(x.Limbs)
	if len(limbs) == 0 {
		return 1
	}
	count := limbDigits * (len(limbs) - 1)
	for top := limbs[len(limbs)-1]; top > 0; top /= 10 {
		count++
	}
	return count
}

// Text returns the decimal form of x.
func Text(x Natural) string {
	limbs := canon(x.Limbs)
	if len(limbs) == 0 {
		return "0"
	}
	top := len(limbs) - 1
	text := make([]byte, 0, limbDigits*len(limbs))
	text = strconv.AppendUint(text, uint64(limbs[top]), 10)
	for i := top - 1; i >= 0; i-- {
		text = appendLimb(text, limbs[i])
	}
	return string(text)
}

// appendLimb appends all nine digits of a limb.
func appendLimb(text []byte, limb uint32) []byte {
	for unit := uint32(base / 10); unit > 0; unit /= 10 {
		text = append(text, '0'+byte(limb/unit%10))
	}
	return text
}

// Parse returns the natural whose Text s is; ErrFull if s is too long, ErrForm
// if there is none.
func Parse(s string) (Natural, Errno) {
	if len(s) > maxText {
		return Natural{}, api.ErrFull
	}
	if !isText(s) {
		return Natural{}, api.ErrForm
	}
	limbs := make([]uint32, 0, len(s)/limbDigits+1)
	for end := len(s); end > 0; end -= limbDigits {
		limbs = append(limbs, readLimb(s[max(0, end-limbDigits):end]))
	}
	return Natural{Limbs: trim(limbs)}, api.OK
}

// isText reports whether s is the Text of a natural.
func isText(s string) bool {
	for i := range len(s) {
		if s[i] < '0' || s[i] > '9' {
			return false
		}
	}
	return s == "0" || s != "" && s[0] != '0'
}

// readLimb returns the value of at most nine digits.
func readLimb(digits string) uint32 {
	limb := uint32(0)
	for i := range len(digits) {
		limb = limb*10 + uint32(digits[i]-'0')
	}
	return limb
}
