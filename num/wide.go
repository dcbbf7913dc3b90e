package num

import (
	"bivouac/api"
)

// wide is an absolute value of 128 bits: its high word, then its low word.
type wide [2]uint64

// size is a number's absolute value; an unsigned word holds even that of the least int64.
func size(a int64) uint64 {
	if a < 0 {
		return -uint64(a)
	}
	return uint64(a)
}

// product multiplies by halves of words, since the product of two halves fits into one word.
func product(a, b uint64) wide {
	const half = 1<<32 - 1
	aHigh, aLow := a>>32, a&half
	bHigh, bLow := b>>32, b&half
	low := aLow * bLow
	middle := aHigh*bLow + low>>32
	other := aLow*bHigh + middle&half
	return wide{aHigh*bHigh + middle>>32 + other>>32, a * b}
}

// divide answers the quotient and the remainder by a number from 1 to 2^63: a remainder can then be doubled within a word.
func (w wide) divide(by uint64) (wide, uint64) {
	high, rest := w[0]/by, w[0]%by
	if rest == 0 {
		// Nothing is carried into the low word, so that the machine can divide it, which is faster.
		return wide{high, w[1] / by}, w[1] % by
	}
	low := uint64(0)
	for bit := 63; bit >= 0; bit-- {
		rest = rest<<1 | w[1]>>bit&1
		low <<= 1
		if rest >= by {
			rest -= by
			low |= 1
		}
	}
	return wide{high, low}, rest
}

// next is one more.
func (w wide) next() wide {
	w[1]++
	if w[1] == 0 {
		w[0]++
	}
	return w
}

// signer answers how an absolute value, and what is left over of it, become a number of the given sign, rounded down.
func signer(negative bool) func(wide, uint64) (int64, api.Errno) {
	return func(value wide, rest uint64) (int64, api.Errno) {
		// Down is away from zero for what is below zero.
		if negative && rest != 0 {
			value = value.next()
		}
		switch {
		case value[0] != 0:
			return 0, api.ErrOver
		case negative && value[1] <= lowest:
			return -int64(value[1]), api.OK
		case !negative && value[1] < lowest:
			return int64(value[1]), api.OK
		}
		return 0, api.ErrOver
	}
}
