// Package num is layer 1: checked arithmetic on 64-bit integers.
package num

import (
	"bivouac/api"
)

// lowest is the absolute value of the least int64, which no int64 holds.
const lowest = 1 << 63

// Add is a sum.
func Add(a, b int64) (int64, api.Errno) {
	sum := a + b
	if (sum < a) != (b < 0) {
		return 0, api.ErrOver
	}
	return sum, api.OK
}

// Sub is a difference.
func Sub(a, b int64) (int64, api.Errno) {
	difference := a - b
	if (difference > a) != (b < 0) {
		return 0, api.ErrOver
	}
	return difference, api.OK
}

// Mul is a product.
func Mul(a, b int64) (int64, api.Errno) {
	signed := signer((a < 0) != (b < 0))
	return signed(product(size(a), size(b)), 0)
}

// Div is a quotient, rounded down.
func Div(a, b int64) (int64, api.Errno) {
	if b == 0 {
		return 0, api.ErrZero
	}
	if a == -lowest && b == -1 {
		return 0, api.ErrOver
	}
	quotient := a / b
	// The language rounds towards zero, which is up where the signs differ.
	if a%b != 0 && (a < 0) != (b < 0) {
		quotient--
	}
	return quotient, api.OK
}

// Mod is the remainder of a quotient that is rounded down.
func Mod(a, b int64) (int64, api.Errno) {
	if b == 0 {
		return 0, api.ErrZero
	}
	rest := a % b
	// The language's remainder has the sign of a; this one has that of b.
	if rest != 0 && (rest < 0) != (b < 0) {
		rest += b
	}
	return rest, api.OK
}

// MulDiv is a product, however great, divided by a number, rounded down.
func MulDiv(a, b, c int64) (int64, api.Errno) {
	if c == 0 {
		return 0, api.ErrZero
	}
	signed := signer((a < 0) != (b < 0) != (c < 0))
	return signed(product(size(a), size(b)).divide(size(c)))
}

// Clamp is a number between two.
func Clamp(v, least, most int64) int64 {
	// least is asked first, so that it wins where the bounds are crossed.
	if v < least {
		return least
	}
	if v > most {
		return most
	}
	return v
}
