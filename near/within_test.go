package near_test

import (
	"math/rand"
	"slices"
	"testing"

	"bivouac/api"
)

func TestWithin(t *testing.T) { // P12.2
	l := []api.Spot{{X: 10, Y: 10}, {X: 13, Y: 14}, {X: 10, Y: 10}, {X: 6, Y: 7}, {X: 10, Y: 15}, {X: 11, Y: 11}, {X: span, Y: 10}, {X: 10, Y: span}}
	n := indexOf(t, l)
	for _, c := range []struct {
		x, y, r int64
		want    []int
	}{
		{10, 10, 0, []int{0, 2}}, // two on one place
		{10, 11, 0, nil},
		{10, 10, 1, []int{0, 2}}, // at one each way it is more than 1
		{10, 10, 2, []int{0, 2, 5}},
		{10, 10, 4, []int{0, 2, 5}},
		{10, 10, 5, []int{0, 1, 2, 3, 4, 5}}, // just 5, on three sides
		{10, 10, 6, []int{0, 1, 2, 3, 4, 5}},
		{10, 10, span - 11, []int{0, 1, 2, 3, 4, 5}},
		{10, 10, span - 10, []int{0, 1, 2, 3, 4, 5, 6, 7}},
		{10, 10, span, []int{0, 1, 2, 3, 4, 5, 6, 7}},
		{span, 10, 0, []int{6}},
		{span - 1, 10, 1, []int{6}},
		{span, span, span - 11, nil},
		{span, span, span - 10, []int{6, 7}},
		{span, span, span, []int{6, 7}},
		{0, 0, 14, []int{3}}, // 14 14 is below 10 10 + 10 10
		{0, 0, 15, []int{0, 2, 3}},
		{span / 2, span / 2, 1 << 25, nil}, // far from all
	} {
		if who := within(t, n, c.x, c.y, c.r); !slices.Equal(who, c.want) {
			t.Errorf("Within(%d, %d, %d): %v, want %v", c.x, c.y, c.r, who, c.want)
		}
	}
}

func TestWithinAsByASearch(t *testing.T) { // P12.2
	r := rand.New(rand.NewSource(2))
	found := 0
	for _, l := range lists() {
		n := indexOf(t, l)
		for _, at := range placesOf(r, l) {
			for _, d := range distancesOf(r, l, at[0], at[1]) {
				who, want := within(t, n, at[0], at[1], d), withinOf(l, at[0], at[1], d)
				if !slices.Equal(who, want) {
					t.Fatalf("Within(%d, %d, %d) of %v: %v, want %v", at[0], at[1], d, l, who, want)
				}
				if len(who) > 0 && len(who) < len(l) {
					found++
				}
			}
		}
	}
	if found < 10000 {
		t.Errorf("only %d times some, but not all", found)
	}
}

// On both sides of each border of squares a spot is found from both sides, at its distance and not below.
func TestWithinOverBorders(t *testing.T) { // P12.2
	for bits := 16; bits <= 26; bits++ {
		side := int64(1) << bits
		for _, k := range []int64{0, 1, 2, span/side - 1, span / side} {
			at := kept(k * side)
			var l []api.Spot
			for _, dx := range []int64{-2, -1, 0, 1} {
				for _, dy := range []int64{-2, -1, 0, 1} {
					l = append(l, spotAt(at+dx, at+dy))
				}
			}
			n := indexOf(t, l)
			for _, s := range l {
				for _, d := range []int64{0, 1, 2, 3, 4, side - 1, side, min(side+1, span)} {
					for _, from := range []api.Spot{s, spotAt(s.X-d, s.Y), spotAt(s.X+d, s.Y), spotAt(s.X, s.Y-d), spotAt(s.X, s.Y+d)} {
						if who, want := within(t, n, from.X, from.Y, d), withinOf(l, from.X, from.Y, d); !slices.Equal(who, want) {
							t.Fatalf("Within(%d, %d, %d) of %v: %v, want %v", from.X, from.Y, d, l, who, want)
						}
					}
				}
			}
		}
	}
}

func TestWithinOfWrongNumbers(t *testing.T) { // P12.2 with R2, R5
	for _, l := range [][]api.Spot{nil, {}, {{}}, corners(), times(most, api.Spot{X: 5})} {
		n := indexOf(t, l)
		refused := func(x, y, r int64) {
			if who, e := n.Within(x, y, r); len(who) != 0 || e != api.ErrArg {
				t.Fatalf("Within(%d, %d, %d) of %d spots: %v, %d", x, y, r, len(l), who, e)
			}
		}
		for _, no := range noNumbers {
			for _, a := range append(bounds, noNumbers...) {
				for _, b := range append(bounds, no) {
					refused(no, a, b)
					refused(a, no, b)
					refused(a, b, no)
				}
			}
		}
		for _, x := range bounds {
			for _, y := range bounds {
				for _, r := range bounds {
					if who := within(t, n, x, y, r); !slices.Equal(who, withinOf(l, x, y, r)) {
						t.Errorf("Within(%d, %d, %d) of %v: %v", x, y, r, l, who)
					}
				}
			}
		}
	}
}

func TestWithinIsNewMemory(t *testing.T) { // P12.2 with R3
	l := append(ring(500, 500, 9), times(9, api.Spot{X: 500, Y: 500})...)
	n := indexOf(t, l)
	first := within(t, n, 500, 500, 45)
	want := slices.Clone(first)
	for i := range first {
		first[i] = -1
	}
	again := within(t, n, 500, 500, 45)
	if !slices.Equal(again, want) || len(want) != len(l) {
		t.Errorf("what was done with a result is in the next one: %v", again)
	}
	if slices.ContainsFunc(first, func(i int) bool { return i != -1 }) {
		t.Errorf("a later call wrote into a result: %v", first)
	}
}
