package near_test

import (
	"slices"
	"testing"

	"bivouac/api"
	"bivouac/near"
)

// refuses: New answers ErrArg, and no index.
func refuses(t *testing.T, l []api.Spot) {
	t.Helper()
	if n, e := near.New(l); n != nil || e != api.ErrArg {
		t.Fatalf("New of %d spots: %v, %d", len(l), n, e)
	}
}

func TestNumbersOfSpots(t *testing.T) { // P12.1
	for _, n := range []int{0, 1, 2, 3, 16, 17, 100, 255, 256} {
		for _, s := range append(corners(), api.Spot{X: 5, Y: span / 3}) {
			l := times(n, s)
			x := indexOf(t, l)
			if who := within(t, x, s.X, s.Y, 0); !slices.Equal(who, withinOf(l, s.X, s.Y, 0)) || len(who) != n {
				t.Errorf("of %d spots on %v there are %v", n, s, who)
			}
		}
	}
	if who := within(t, indexOf(t, []api.Spot{}), 0, 0, span); len(who) != 0 {
		t.Errorf("of an empty list there are %v", who)
	}
	if who := within(t, indexOf(t, nil), 0, 0, span); len(who) != 0 {
		t.Errorf("of nil there are %v", who)
	}
}

func TestTooManySpots(t *testing.T) { // P12.1
	for _, n := range []int{257, 258, 259, 511, 512, 513, 65536, 65537, 65792} {
		refuses(t, times(n, api.Spot{}))
		refuses(t, times(n, api.Spot{X: span, Y: span}))
		refuses(t, times(n, api.Spot{X: -1, Y: span + 1})) // none of them is valid
		refuses(t, append(times(n-1, api.Spot{}), api.Spot{X: -1}))
	}
}

// with is a list in which one spot is otherwise.
func with(l []api.Spot, i int, s api.Spot) []api.Spot {
	l = slices.Clone(l)
	l[i] = s
	return l
}

func TestSpotsThatMayBe(t *testing.T) { // P12.1
	base := append(times(4, api.Spot{X: 7, Y: 7}), corners()...)
	for _, x := range bounds {
		for _, y := range bounds {
			s := api.Spot{X: x, Y: y}
			for _, l := range [][]api.Spot{{s}, times(most, s), with(base, 0, s), with(base, 4, s), with(base, 7, s)} {
				n := indexOf(t, l)
				if who := within(t, n, x, y, 0); !slices.Equal(who, withinOf(l, x, y, 0)) {
					t.Errorf("on %v of %v there are %v", s, l, who)
				}
			}
		}
	}
}

func TestSpotsThatMayNotBe(t *testing.T) { // P12.1 with R2, R5
	base := append(times(4, api.Spot{X: 7, Y: 7}), corners()...)
	for _, no := range noNumbers {
		for _, other := range append(bounds, no, -1, span+1) {
			for _, s := range []api.Spot{{X: no, Y: other}, {X: other, Y: no}} {
				refuses(t, []api.Spot{s})
				for _, i := range []int{0, 1, 4, 6, 7} {
					refuses(t, with(base, i, s))
				}
				refuses(t, times(most, s))
				for _, i := range []int{0, 128, most - 1} {
					refuses(t, with(times(most, api.Spot{X: span}), i, s))
				}
			}
		}
	}
}
