// Package amount is layer 1: amounts and exact quotients. It is specified in shared/doc/01-amount.md.
package amount

import (
	"math/bits"

	"treaty/api"
)

// Valid reports whether the absolute value of a is at most MaxAmount.
func Valid(a int) bool {
	return -api.MaxAmount <= a && a <= api.MaxAmount
}

// Clamp returns the valid amount that is nearest to a.
func Clamp(a int) int {
	return min(max(a, -api.MaxAmount), api.MaxAmount)
}

// MulDiv returns a * num / den, rounded once, as mode says.
func MulDiv(a, num, den, mode int) (int, api.Errno) {
	switch {
	case mode < api.TowardZero || mode > api.HalfEven:
		return 0, api.ErrKind
	case !Valid(a) || !factor(num) || !factor(den):
		return 0, api.ErrRange
	case den == 0:
		return 0, api.ErrZero
	}
	sign := 1
	if a < 0 {
		sign = -1
	}
	hi, lo := bits.Mul64(uint64(sign*a), uint64(num))
	// Such a quotient has more than 64 bits, and Div64 would panic.
	if hi >= uint64(den) {
		return 0, api.ErrOverflow
	}
	quotient, rest := bits.Div64(hi, lo, uint64(den))
	// A quotient that is too great anyway is not rounded: the greatest one would wrap around to 0.
	if quotient <= api.MaxAmount && awayFromZero(mode, sign, quotient, rest, uint64(den)) {
		quotient++
	}
	if quotient > api.MaxAmount {
		return 0, api.ErrOverflow
	}
	return sign * int(quotient), api.OK
}

// Share returns a part of a, in millionths of the whole.
func Share(a, millionths, mode int) (int, api.Errno) {
	return MulDiv(a, millionths, api.Million, mode)
}

// Sum returns the sum of the elements of l.
func Sum(l []int) (int, api.Errno) {
	if len(l) > api.MaxList {
		return 0, api.ErrLimit
	}
	// MaxList valid amounts add up to at most 2^60, so the sum needs no check on the way.
	sum := 0
	for _, a := range l {
		if !Valid(a) {
			return 0, api.ErrRange
		}
		sum += a
	}
	if !Valid(sum) {
		return 0, api.ErrOverflow
	}
	return sum, api.OK
}

// factor reports whether n may be the numerator or the denominator of a quotient.
func factor(n int) bool {
	return 0 <= n && n <= api.MaxAmount
}

// awayFromZero reports whether a quotient with this sign, which is cut off toward zero and leaves rest, is to be rounded the other way.
func awayFromZero(mode, sign int, quotient, rest, den uint64) bool {
	if rest == 0 {
		return false
	}
	switch mode {
	case api.Floor:
		return sign < 0
	case api.Ceiling:
		return sign > 0
	case api.HalfEven:
		if 2*rest == den {
			return quotient%2 == 1
		}
		// Only at a half do the two modes differ.
		fallthrough
	case api.HalfUp:
		return 2*rest >= den
	}
	return false // TowardZero
}
