package trig

import (
	"bivouac/api"
)

// windTurn is the angle from a wind to the next one, and from an entry of the table to the next one.
const windTurn = api.Circle / api.Winds

// sines are those of a quarter, at every wind of it, both ends included.
var sines = [65]int64{
	0, 1608, 3216, 4821, 6424, 8022, 9616, 11204,
	12785, 14359, 15924, 17479, 19024, 20557, 22078, 23586,
	25080, 26558, 28020, 29466, 30893, 32303, 33692, 35062,
	36410, 37736, 39040, 40320, 41576, 42806, 44011, 45190,
	46341, 47464, 48559, 49624, 50660, 51665, 52639, 53581,
	54491, 55368, 56212, 57022, 57798, 58538, 59244, 59914,
	60547, 61145, 61705, 62228, 62714, 63162, 63572, 63944,
	64277, 64571, 64827, 65043, 65220, 65358, 65457, 65516,
	65536,
}

// Sin is an angle's sine.
func Sin(a int64) int64 {
	p := Norm(a)
	quarter, rest := p/quarterTurn, p%quarterTurn
	if quarter == 1 || quarter == 3 {
		// These quarters run through the table backwards.
		rest = quarterTurn - rest
	}
	if quarter >= 2 {
		return -sineOfQuarter(rest)
	}
	return sineOfQuarter(rest)
}

// Cos is an angle's cosine.
func Cos(a int64) int64 {
	// The quarter is added within one turn, where the sum fits.
	return Sin(Norm(a) + quarterTurn)
}

// sineOfQuarter is the sine of an angle from 0 to a quarter: on the line between two entries of the table.
func sineOfQuarter(r int64) int64 {
	i, beyond := r/windTurn, r%windTurn
	if beyond == 0 {
		// The last entry, which has no next one, ends here.
		return sines[i]
	}
	// The sines grow, so that nothing below 0 is divided, and the language's division rounds down.
	return sines[i] + (sines[i+1]-sines[i])*beyond/windTurn
}
