package crater_test

import (
	"math"
	"math/rand"
	"testing"

	"bivouac/api"
	"bivouac/crater"
)

// numbers are edges of each of a hit's four numbers, in order, and whether they are within its bounds.
var numbers = []struct {
	n                 int
	place, wide, deep bool
}{
	{math.MinInt, false, false, false},
	{math.MinInt + 1, false, false, false},
	{-1 << 32, false, false, false},
	{-65, false, false, false},
	{-64, true, false, false},
	{-1, true, false, false},
	{0, true, false, true},
	{1, true, true, true},
	{8, true, true, true},
	{9, true, false, true},
	{128, true, false, true},
	{129, false, false, true},
	{255, false, false, true},
	{256, false, false, false},
	{1 << 32, false, false, false},
	{1<<32 + 1, false, false, false},
	{math.MaxInt - 1, false, false, false},
	{math.MaxInt, false, false, false},
}

func TestMay(t *testing.T) { // P9.1 with R5
	for _, i := range numbers {
		for _, j := range numbers {
			for _, radius := range numbers {
				for _, deep := range numbers {
					h := api.Hit{I: i.n, J: j.n, Radius: radius.n, Deep: deep.n}
					want := i.place && j.place && radius.wide && deep.deep
					if crater.May(h) != want {
						t.Fatalf("May(%v): %t", h, !want)
					}
				}
			}
		}
	}
}

func TestMayOfEachNumber(t *testing.T) { // P9.1
	for n := -300; n <= 300; n++ {
		for _, c := range []struct {
			h           api.Hit
			least, most int
		}{
			{api.Hit{I: n, J: 5, Radius: 2, Deep: 8}, -64, 128},
			{api.Hit{I: 5, J: n, Radius: 2, Deep: 8}, -64, 128},
			{api.Hit{I: 5, J: 5, Radius: n, Deep: 8}, 1, 8},
			{api.Hit{I: 5, J: 5, Radius: 2, Deep: n}, 0, 255},
		} {
			want := n >= c.least && n <= c.most
			if crater.May(c.h) != want {
				t.Errorf("May(%v): %t", c.h, !want)
			}
		}
	}
	for _, h := range wrongHits() {
		if crater.May(h) {
			t.Errorf("May(%v): true", h)
		}
	}
}

func TestLowers(t *testing.T) { // P9.1
	example := api.Hit{I: 5, J: 5, Radius: 2, Deep: 8}
	third := api.Hit{I: 0, J: 0, Radius: 3, Deep: 10}
	widest := api.Hit{I: -64, J: 128, Radius: 8, Deep: 255}
	for _, c := range []struct {
		h          api.Hit
		i, j, want int
	}{
		{example, 5, 5, 8}, // the chapter's example
		{example, 6, 5, 6},
		{example, 6, 6, 4},
		{example, 7, 5, 0},
		{example, 4, 5, 6},
		{example, 5, 4, 6},
		{example, 4, 4, 4},
		{example, 3, 5, 0},
		{example, 5, 3, 0},
		{example, 7, 6, 0},
		{third, 0, 0, 10},
		{third, 1, 0, 8},  // of 80 / 9
		{third, -1, 1, 7}, // of 70 / 9
		{third, 0, -2, 5}, // of 50 / 9
		{third, 2, 1, 4},  // of 40 / 9
		{third, -2, -2, 1},
		{third, 3, 0, 0},
		{widest, -64, 128, 255},
		{widest, -57, 128, 59}, // of 255 * 15 / 64
		{widest, -64, 121, 59},
		{widest, -59, 122, 11}, // of 255 * 3 / 64
		{widest, -56, 128, 0},
		{api.Hit{I: 5, J: 5, Radius: 1, Deep: 7}, 5, 5, 7},
		{api.Hit{I: 5, J: 5, Radius: 1, Deep: 7}, 5, 6, 0},
		{api.Hit{I: 5, J: 5, Radius: 8, Deep: 0}, 5, 5, 0},
		{api.Hit{I: 5, J: 5, Radius: 8, Deep: 1}, 5, 5, 1},
		{api.Hit{I: 5, J: 5, Radius: 8, Deep: 1}, 5, 6, 0},
	} {
		if n := crater.Lowers(c.h, c.i, c.j); n != c.want {
			t.Errorf("Lowers(%v, %d, %d): %d, want %d", c.h, c.i, c.j, n, c.want)
		}
	}
}

// Every radius and depth, at every corner of a square that goes beyond the radius.
func TestLowersAtAllCorners(t *testing.T) { // P9.1
	lowered, edges := 0, 0
	for radius := 1; radius <= 8; radius++ {
		for deep := range 256 {
			h := api.Hit{I: deep/4 - 20, J: 40 - deep/8, Radius: radius, Deep: deep}
			for x := -radius - 1; x <= radius+1; x++ {
				for y := -radius - 1; y <= radius+1; y++ {
					n, want := crater.Lowers(h, h.I+x, h.J+y), lowersOf(h, h.I+x, h.J+y)
					if n != want {
						t.Fatalf("Lowers(%v, %d, %d): %d, want %d", h, h.I+x, h.J+y, n, want)
					}
					if x*x+y*y >= radius*radius && n != 0 {
						t.Fatalf("Lowers(%v, %d, %d): %d at the radius or beyond", h, h.I+x, h.J+y, n)
					}
					if x*x+y*y == radius*radius {
						edges++
					}
					lowered += n
				}
			}
		}
	}
	if lowered == 0 || edges != 256*(8*4+8) { // four corners each, and eight more at the radius 5
		t.Errorf("%d lowered, %d corners at a radius", lowered, edges)
	}
}

func TestLowersOverAllPlaces(t *testing.T) { // P9.1
	for _, i := range []int{-64, -63, 0, 64, 127, 128} {
		for _, j := range []int{-64, -57, 0, 31, 121, 128} {
			h := api.Hit{I: i, J: j, Radius: 8, Deep: 200}
			for k := -70; k <= 134; k++ {
				for l := -70; l <= 134; l++ {
					want := 0
					if k >= -64 && k <= 128 && l >= -64 && l <= 128 {
						want = lowersOf(h, k, l)
					}
					if n := crater.Lowers(h, k, l); n != want {
						t.Fatalf("Lowers(%v, %d, %d): %d, want %d", h, k, l, n, want)
					}
				}
			}
		}
	}
}

func TestLowersAtEdges(t *testing.T) { // P9.1
	for _, c := range []struct {
		middle, at int
		is         bool
	}{
		{-64, -65, false},
		{-64, -64, true},
		{-60, -65, false},
		{-60, -64, true},
		{128, 128, true},
		{128, 129, false},
		{124, 128, true},
		{124, 129, false},
	} {
		across := api.Hit{I: c.middle, J: 7, Radius: 8, Deep: 255}
		if n := crater.Lowers(across, c.at, 7); (n > 0) != c.is {
			t.Errorf("Lowers(%v, %d, 7): %d", across, c.at, n)
		}
		along := api.Hit{I: 7, J: c.middle, Radius: 8, Deep: 255}
		if n := crater.Lowers(along, 7, c.at); (n > 0) != c.is {
			t.Errorf("Lowers(%v, 7, %d): %d", along, c.at, n)
		}
	}
}

// Corners so far away that a difference or its square would wrap around.
func TestLowersFarAway(t *testing.T) { // P9.1 with R5
	far := []int{math.MinInt, math.MinInt + 1, -1 << 32, -1 << 31, -65, 129, 1 << 31, 1 << 32, 1<<32 + 5, 1<<63 - 64, math.MaxInt - 1, math.MaxInt}
	for _, middle := range []int{-64, -1, 0, 1, 5, 64, 128} {
		h := api.Hit{I: middle, J: middle, Radius: 8, Deep: 255}
		for _, n := range far {
			for _, at := range [][2]int{{n, middle}, {middle, n}, {n, n}} {
				if by := crater.Lowers(h, at[0], at[1]); by != 0 {
					t.Errorf("Lowers(%v, %d, %d): %d", h, at[0], at[1], by)
				}
			}
		}
	}
}

func TestLowersOfWrongHits(t *testing.T) { // P9.1
	for _, h := range wrongHits() {
		for _, i := range []int{h.I, 0, 3, -64, 128, math.MinInt, math.MaxInt} {
			for _, j := range []int{h.J, 0, 3, -64, 128, math.MinInt, math.MaxInt} {
				if n := crater.Lowers(h, i, j); n != 0 {
					t.Errorf("Lowers(%v, %d, %d): %d", h, i, j, n)
				}
			}
		}
	}
}

func TestFartherIsNotLoweredMore(t *testing.T) { // P9.3
	r := rand.New(rand.NewSource(9))
	for radius := 1; radius <= 8; radius++ {
		for _, deep := range []int{0, 1, 2, 63, 64, 65, 254, 255, r.Intn(256), r.Intn(256)} {
			h := api.Hit{I: r.Intn(193) - 64, J: r.Intn(193) - 64, Radius: radius, Deep: deep}
			least := map[int]int{} // by the square of the distance
			most := map[int]int{}
			for x := -9; x <= 9; x++ {
				for y := -9; y <= 9; y++ {
					i, j := h.I+x, h.J+y
					if i < -64 || i > 128 || j < -64 || j > 128 {
						continue
					}
					s, n := x*x+y*y, crater.Lowers(h, i, j)
					if was, is := least[s]; !is || n < was {
						least[s] = n
					}
					most[s] = max(most[s], n)
				}
			}
			for near, n := range least {
				for far, more := range most {
					if far >= near && more > n {
						t.Errorf("%v lowers by %d at the square %d, by %d at %d", h, n, near, more, far)
					}
				}
			}
		}
	}
}
