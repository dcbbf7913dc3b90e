package real

import (
	"math"

	"bivouac/api"
	"bivouac/fix"
)

// The bits of a float without its sign are in the order of its size: 0 is either zero, and what is above infinity is a NaN.
const (
	sign     uint64 = 1 << 63
	infinity uint64 = 0x7ff << 52
)

// top is the first whole above the range; the range begins at its negative.
const top = api.Wide / api.One

// counted is a float in 65536ths; it panics with an error if the float is not in range.
func counted(f float64) float64 {
	switch size := math.Float64bits(f) &^ sign; {
	case size > infinity:
		panic(api.ErrNaN)
	case size == infinity, f < -top, f >= top:
		panic(api.ErrOver)
	case size == 0:
		return 0
	}
	// Nothing is rounded: a power of two changes the exponent alone, and a float too small to have a leading bit only gains by it.
	return f * api.One
}

// down is the greatest integer that is not above x.
func down(x float64) int64 {
	v := int64(x)
	if float64(v) > x {
		// The conversion cuts toward 0, which is up from below 0.
		return v - 1
	}
	return v
}

// nearest is the integer nearest to x, of two the greater one.
func nearest(x float64) int64 {
	v := down(x)
	// What is left over is compared, because x and a half would be rounded: up to 1 just below a half.
	if x-float64(v) >= 0.5 {
		return v + 1
	}
	return v
}

// held is v itself; it panics with an error if no float in range has its value.
func held(v int64) int64 {
	if v < -api.Wide || v >= api.Wide {
		panic(api.ErrOver)
	}
	return v
}

// exact is the float with the value of a number that is held.
func exact(v int64) float64 {
	// The sum is not rounded: it needs 46 bits, and a float has 53.
	return float64(fix.Whole(v)) + float64(fix.Part(v))/api.One
}
