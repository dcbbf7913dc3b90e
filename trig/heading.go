package trig

import (
	"bivouac/api"
)

// windsOfQuarter is how many winds lead from one quarter's beginning to the next one's.
const windsOfQuarter = api.Winds / 4

// Heading is the wind of a way.
func Heading(x, y int64) (int64, api.Errno) {
	if tooFar(x) || tooFar(y) {
		return 0, api.ErrOver
	}
	best, most := int64(0), int64(0)
	try := func(d int64) {
		gain := along(d, x, y)
		if gain > most {
			best, most = d, gain
		}
	}
	// A wind of another quarter, mirrored into the vector's own, is at least as good: the
	// own one is searched alone. Wind 0 ends the last quarter, and is tried ahead of it,
	// since of equally good winds the least one is told.
	try(0)
	first := firstWind(x, y)
	for d := first; d <= first+windsOfQuarter && d < api.Winds; d++ {
		try(d)
	}
	return best, api.OK
}

// along is how far the vector leads into a wind's direction, in 65536ths: within Far the products fit.
func along(d, x, y int64) int64 {
	a := d * windTurn
	return x*Cos(a) + y*Sin(a)
}

// firstWind is where the quarter begins in which the vector lies.
func firstWind(x, y int64) int64 {
	switch {
	case x >= 0 && y >= 0:
		return 0
	case y >= 0:
		return windsOfQuarter
	case x < 0:
		return 2 * windsOfQuarter
	}
	return 3 * windsOfQuarter
}
