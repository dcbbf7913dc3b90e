package near_test

import (
	"math/rand"
	"testing"

	"bivouac/api"
)

func TestNearest(t *testing.T) { // P12.3
	middle := int64(span / 2)
	for _, c := range []struct {
		l    []api.Spot
		x, y int64
		want int
	}{
		{[]api.Spot{{}}, 0, 0, 0},
		{[]api.Spot{{}}, span, span, 0}, // the farthest that there is
		{[]api.Spot{{X: span, Y: span}}, 0, 0, 0},
		{[]api.Spot{{X: span}}, 0, span, 0},
		{[]api.Spot{{}, {X: 3, Y: 4}, {X: 3, Y: 4}}, 4, 4, 1}, // of two on one place
		{[]api.Spot{{X: 3, Y: 4}, {}, {X: 3, Y: 4}}, 3, 4, 0},
		{[]api.Spot{{X: 9}, {X: 8}, {X: 9}, {X: 8}}, 0, 0, 1},
		{[]api.Spot{{X: 4}, {X: 6}}, 5, 0, 0}, // just between two
		{[]api.Spot{{X: 6}, {X: 4}}, 5, 0, 0},
		{[]api.Spot{{X: 5, Y: 9}, {X: 9, Y: 5}, {X: 1, Y: 5}, {X: 5, Y: 1}}, 5, 5, 0},
		{[]api.Spot{{X: 14, Y: 15}, {X: 13, Y: 14}, {X: 10, Y: 15}, {X: 6, Y: 7}}, 10, 10, 1}, // 3 4 is as far as 0 5
		{[]api.Spot{{X: 5}, {X: 3, Y: 3}}, 0, 0, 1},
		{[]api.Spot{{X: 5}, {X: 4, Y: 4}}, 0, 0, 0},
		{ring(middle, middle, 1), middle, middle, 0},
		{ring(middle, middle, span/10), middle, middle, 0},
		{append(corners(), corners()...), middle, middle, 0},
		{append(corners(), corners()...), middle - 1, middle, 1},
		{append(corners(), corners()...), middle, middle - 1, 2},
		{append(corners(), corners()...), middle - 1, middle - 1, 3},
		{append(corners(), api.Spot{X: middle, Y: middle}), middle, span, 0}, // half a side, as to the corners
		{append([]api.Spot{{X: middle, Y: middle}}, corners()...), middle, span, 0},
		{times(most, api.Spot{X: 77, Y: span}), span, 0, 0},
	} {
		if i := nearest(t, indexOf(t, c.l), c.x, c.y); i != c.want {
			t.Errorf("Nearest(%d, %d) of %v: %d, want %d", c.x, c.y, c.l, i, c.want)
		}
	}
}

func TestNearestAsByASearch(t *testing.T) { // P12.3
	r := rand.New(rand.NewSource(3))
	for _, l := range lists() {
		n := indexOf(t, l)
		for range 4 {
			for _, at := range placesOf(r, l) {
				if len(l) == 0 {
					if i, e := n.Nearest(at[0], at[1]); i != 0 || e != api.ErrNone {
						t.Fatalf("Nearest(%d, %d) of none: %d, %d", at[0], at[1], i, e)
					}
				} else if i := nearest(t, n, at[0], at[1]); i != nearestOf(l, at[0], at[1]) {
					t.Fatalf("Nearest(%d, %d) of %v: %d, want %d", at[0], at[1], l, i, nearestOf(l, at[0], at[1]))
				}
			}
		}
	}
}

// Of a few spots the nearest is often far, and beyond it others are nearly as far, in other squares.
func TestNearestOfAFew(t *testing.T) { // P12.3
	r := rand.New(rand.NewSource(4))
	for range 30000 {
		l := drawn(r, 1+r.Intn(4), span)
		x, y := r.Int63n(span+1), r.Int63n(span+1)
		if i := nearest(t, indexOf(t, l), x, y); i != nearestOf(l, x, y) {
			t.Fatalf("Nearest(%d, %d) of %v: %d, want %d", x, y, l, i, nearestOf(l, x, y))
		}
	}
}

// One spot lies across a corner, the other one straight ahead and just nearer, as near, or just farther.
func TestNearestOfTwoSides(t *testing.T) { // P12.3
	for bits := range 22 {
		size := int64(1) << bits
		for _, at := range []int64{5 * size, span / 2, span - 5*size} {
			for _, d := range ring(0, 0, size) {
				for _, e := range ring(0, 0, size) {
					for more := int64(-1); more <= 1; more++ {
						one, other := spotAt(at+d.X+more, at+d.Y), spotAt(at+e.X, at+e.Y)
						l := []api.Spot{one, other}
						if i := nearest(t, indexOf(t, l), at, at); i != nearestOf(l, at, at) {
							t.Fatalf("Nearest(%d, %d) of %v: %d", at, at, l, i)
						}
					}
				}
			}
		}
	}
}

func TestNearestOfNone(t *testing.T) { // P12.3 with R2
	for _, l := range [][]api.Spot{nil, {}} {
		n := indexOf(t, l)
		for _, x := range bounds {
			for _, y := range bounds {
				if i, e := n.Nearest(x, y); i != 0 || e != api.ErrNone {
					t.Errorf("Nearest(%d, %d) of none: %d, %d", x, y, i, e)
				}
			}
		}
	}
}

func TestNearestOfWrongNumbers(t *testing.T) { // P12.3 with R2, R5
	for _, l := range [][]api.Spot{nil, {}, {{}}, corners(), times(most, api.Spot{X: 5})} { // of none ErrArg comes first
		n := indexOf(t, l)
		for _, no := range noNumbers {
			for _, other := range append(bounds, noNumbers...) {
				for _, at := range [][2]int64{{no, other}, {other, no}} {
					if i, e := n.Nearest(at[0], at[1]); i != 0 || e != api.ErrArg {
						t.Fatalf("Nearest(%d, %d) of %d spots: %d, %d", at[0], at[1], len(l), i, e)
					}
				}
			}
		}
	}
}
