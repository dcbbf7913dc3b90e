package drive_test

import (
	"math/rand"
	"testing"

	"bivouac/drive"
)

func TestOff(t *testing.T) { // P14.1
	for _, c := range []struct{ a, b, want int64 }{
		{0, 0, 0},
		{77, 77, 0},
		{circle - 1, circle - 1, 0},
		{-5, -5, 0},
		{least, least, 0},
		{greatest, greatest, 0},

		{0, 1, 1},
		{0, circle - 1, 1},
		{1, circle - 1, 2},
		{0, quarter, quarter},
		{quarter - 1, 0, quarter - 1},
		{quarter + 1, 0, quarter + 1},
		{0, 3 * quarter, quarter},
		{100, quarter + 100, quarter},
		{100, 3*quarter + 100, quarter},
		{0, half, half},
		{0, half - 1, half - 1},
		{0, half + 1, half - 1},
		{1000, half + 1000, half},
		{1000, half + 999, half - 1},
		{1000, half + 1001, half - 1},
		{circle - 1, half - 1, half},
		{circle - 1, half - 2, half - 1},
		{circle - 1, half, half - 1},

		// Angles outside of a turn.
		{0, circle, 0},
		{0, -circle, 0},
		{circle, -circle, 0},
		{7, circle + 7, 0},
		{-1, 1, 2},
		{-1, circle - 1, 0},
		{-half, half, 0},
		{-quarter, quarter, half},
		{5 * circle, half - 3*circle, half},
		{-quarter - 1, quarter, half - 1},
		{-quarter + 1, quarter, half - 1},
		{1<<40 + 3, 1, 2},

		// The least number there is counts as angle 0, the greatest one as the last angle.
		{least, 0, 0},
		{greatest, 0, 1},
		{greatest, least, 1},
		{greatest, -1, 0},
		{greatest, -half, half - 1},
		{greatest - quarter, least, quarter + 1},
		{greatest, least + half, half - 1},
		{greatest, least + half - 1, half},
		{least, half, half},
		{least + 1, greatest, 2},
	} {
		if d, back := drive.Off(c.a, c.b), drive.Off(c.b, c.a); d != c.want || back != c.want {
			t.Errorf("Off(%d, %d): %d, and back %d, want %d", c.a, c.b, d, back, c.want)
		}
	}
}

// angles are the edges of a turn and of what fits, and some of every length.
func angles() []int64 {
	r := rand.New(rand.NewSource(1))
	var out []int64
	for _, a := range []int64{0, quarter, half, 3 * quarter, circle, 2 * circle, least + circle, greatest - circle} {
		out = append(out, a-1, a, a+1, -a-1, -a, -a+1)
	}
	for shift := range 128 {
		out = append(out, int64(r.Uint64())>>(shift/2))
	}
	return append(out, least, least+1, least+half, greatest, greatest-1, greatest-half)
}

func TestOffByItsWords(t *testing.T) { // P14.1
	for _, a := range angles() {
		for _, b := range angles() {
			if d, want := drive.Off(a, b), deviation(a, b); d != want {
				t.Fatalf("Off(%d, %d): %d, want %d", a, b, d, want)
			}
		}
	}
}

func TestOffOfEveryAngle(t *testing.T) { // P14.1
	for a := range int64(circle) {
		for _, b := range []int64{0, 1, quarter, half + 5, circle - 1, least, greatest} {
			if d, back, want := drive.Off(a, b), drive.Off(b, a), deviation(a, b); d != want || back != want {
				t.Fatalf("Off(%d, %d): %d, and back %d, want %d", a, b, d, back, want)
			}
		}
	}
}
