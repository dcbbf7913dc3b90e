package drive

import (
	"bivouac/api"
)

// may tells whether the engine and the mover are valid, and the target on the land.
func may(m api.Mover, e api.Engine, x, y int64) bool {
	return engineMay(e) && onLand(e, x, y) && onLand(e, m.X, m.Y) && 0 <= m.Angle && m.Angle < api.Circle
}

func engineMay(e api.Engine) bool {
	fast := 0 <= e.Speed && e.Speed <= api.One
	turns := 0 <= e.Turn && e.Turn <= api.HalfCircle
	return fast && turns && sideMay(e.W) && sideMay(e.H)
}

func sideMay(cells int) bool { return 1 <= cells && cells <= api.MaxSide }

// onLand asks for a valid engine: within its bounds the land's sides fit.
func onLand(e api.Engine, x, y int64) bool {
	return clamp(x, e.W) == x && clamp(y, e.H) == y
}

// clamp is the coordinate on the land that is nearest to one.
func clamp(v int64, cells int) int64 {
	return max(0, min(v, int64(cells)*api.One-1))
}
