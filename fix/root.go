package fix

import (
	"bivouac/api"
)

// Root is the root of a whole number, rounded down.
func Root(n uint64) uint64 {
	root := uint64(0)
	// All steps together stay below 2^32, so that no square exceeds a word.
descent:
	for step := uint64(1 << 31); ; step /= 2 {
		next := root + step
		switch {
		case step == 0:
			break descent
		case next*next <= n:
			root = next
		}
	}
	return root
}

// Sqrt is a root of a fixed number, rounded down.
func Sqrt(a int64) (int64, api.Errno) {
	if a < 0 {
		return 0, api.ErrArg
	}
	if a >= api.Wide {
		return 0, api.ErrOver
	}
	// The root halves the bits behind the point, hence twice as many are put there.
	return int64(Root(uint64(a) * api.One)), api.OK
}

// Length is the length of a way, rounded down.
func Length(x, y int64) (int64, api.Errno) {
	if tooFar(x) || tooFar(y) {
		return 0, api.ErrOver
	}
	return int64(Root(uint64(x*x + y*y))), api.OK
}

func tooFar(v int64) bool {
	return v < -api.Far || v > api.Far
}
