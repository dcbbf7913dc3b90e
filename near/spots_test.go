package near_test

import (
	"math"
	"math/rand"
	"testing"

	"bivouac/api"
	"bivouac/near"
)

const (
	span = 67108864 // api.Span, as the chapter says it
	most = 256      // api.MaxSpots
)

// bounds are the least and the greatest numbers that may be.
var bounds = []int64{0, 1, span - 1, span}

// noNumbers are beside 0 to Span, some of which would be within if they were cut to fewer bits.
var noNumbers = []int64{
	-1, -2, -span, -span - 1, span + 1, span + 2, 2 * span, math.MinInt64, math.MinInt64 + 1, math.MaxInt64, math.MaxInt64 - 1,
	math.MinInt32, math.MaxInt32, 1 << 31, 1 << 32, 1<<32 + 5, -1 << 32, 5 - 1<<32, 1<<62 + 5, -1 << 62, math.MinInt64 + 5,
}

// indexOf is the index of spots that are valid.
func indexOf(t *testing.T, l []api.Spot) *near.Index {
	t.Helper()
	n, e := near.New(l)
	if n == nil || e != api.OK {
		t.Fatalf("New of %d spots: %d", len(l), e)
	}
	return n
}

func within(t *testing.T, n *near.Index, x, y, r int64) []int {
	t.Helper()
	list, e := n.Within(x, y, r)
	if e != api.OK {
		t.Fatalf("Within(%d, %d, %d): %d", x, y, r, e)
	}
	return list
}

func nearest(t *testing.T, n *near.Index, x, y int64) int {
	t.Helper()
	i, e := n.Nearest(x, y)
	if e != api.OK {
		t.Fatalf("Nearest(%d, %d): %d", x, y, e)
	}
	return i
}

func pairs(t *testing.T, n *near.Index, r int64) [][2]int {
	t.Helper()
	list, e := n.Pairs(r)
	if e != api.OK {
		t.Fatalf("Pairs(%d): %d", r, e)
	}
	return list
}

// squared is a spot's squared distance.
func squared(s api.Spot, x, y int64) int64 { return (s.X-x)*(s.X-x) + (s.Y-y)*(s.Y-y) }

// withinOf, nearestOf and pairsOf are the answers by a plain search through the list.
func withinOf(l []api.Spot, x, y, r int64) []int {
	var list []int
	for i, s := range l {
		if squared(s, x, y) <= r*r {
			list = append(list, i)
		}
	}
	return list
}

func nearestOf(l []api.Spot, x, y int64) int {
	first := 0
	for i, s := range l {
		if squared(s, x, y) < squared(l[first], x, y) {
			first = i
		}
	}
	return first
}

func pairsOf(l []api.Spot, r int64) [][2]int {
	var list [][2]int
	for i, s := range l {
		for j := i + 1; j < len(l); j++ {
			if squared(l[j], s.X, s.Y) <= r*r {
				list = append(list, [2]int{i, j})
			}
		}
	}
	return list
}

// root is that of a square, rounded down.
func root(square int64) int64 {
	r := int64(0)
	for bit := int64(1) << 27; bit > 0; bit /= 2 {
		if (r+bit)*(r+bit) <= square {
			r += bit
		}
	}
	return r
}

// kept brings a number to 0 to Span.
func kept(n int64) int64 { return max(0, min(n, span)) }

// spotAt is the valid spot that is nearest to a place.
func spotAt(x, y int64) api.Spot { return api.Spot{X: kept(x), Y: kept(y)} }

// times is a spot, again and again.
func times(n int, s api.Spot) []api.Spot {
	var l []api.Spot
	for range n {
		l = append(l, s)
	}
	return l
}

// corners are those of 0 to Span, from the greatest to the least.
func corners() []api.Spot {
	return []api.Spot{{X: span, Y: span}, {X: 0, Y: span}, {X: span, Y: 0}, {}}
}

// ring is spots of which all have the same distance from x, y, on all sides.
func ring(x, y, size int64) []api.Spot {
	var l []api.Spot
	for _, d := range [][2]int64{{3, 4}, {4, 3}, {5, 0}, {0, 5}, {4, -3}, {-3, -4}, {0, -5}, {-5, 0}, {-4, 3}, {3, -4}, {-3, 4}, {-4, -3}} {
		l = append(l, api.Spot{X: x + d[0]*size, Y: y + d[1]*size})
	}
	return l
}

// borders are numbers on both sides of those at which squares may begin, whatever power of two their side is.
func borders(r *rand.Rand) int64 {
	side := int64(1) << (10 + r.Intn(17))
	return kept(side*r.Int63n(span/side+1) + r.Int63n(3) - 1)
}

// drawn are n spots, about so far apart, some of them on one place or at the borders of squares.
func drawn(r *rand.Rand, n int, size int64) []api.Spot {
	x, y := r.Int63n(span+1), r.Int63n(span+1)
	var l []api.Spot
	for range n {
		switch {
		case len(l) > 0 && r.Intn(8) == 0:
			l = append(l, l[r.Intn(len(l))])
		case r.Intn(8) == 0:
			l = append(l, spotAt(borders(r), borders(r)))
		default:
			l = append(l, spotAt(x+r.Int63n(2*size+1)-size, y+r.Int63n(2*size+1)-size))
		}
	}
	return l
}

// lists are valid ones: none and one, on one place, at the corners, on rings, on lines, dense and scattered ones.
func lists() [][]api.Spot {
	l := [][]api.Spot{nil, {}, {{}}, {{X: span, Y: span}}, {{X: 5, Y: span}}, corners(), times(most, api.Spot{X: 9, Y: span})}
	l = append(l, times(3, api.Spot{X: span / 2, Y: span / 2}), ring(span/2, span/2, 1), ring(span/2, span/2, span/10), ring(5, 5, 1), ring(1<<22, 3<<22, 1<<19))
	var row, column, aslant []api.Spot
	for k := range int64(most) {
		row = append(row, spotAt(k<<18, 1<<22))
		column = append(column, spotAt(1<<22-1, span-k<<18))
		aslant = append(aslant, spotAt(k, most-k))
	}
	l = append(l, row, column, aslant)
	r := rand.New(rand.NewSource(12))
	for _, size := range []int64{0, 2, 9, 1000, 65536, 1 << 20, 1 << 22, 1 << 24, span} {
		for _, n := range []int{1, 2, 3, 10, 40, 255, most} {
			l = append(l, drawn(r, n, size))
		}
	}
	return l
}

// placesOf are spots, places about them, at the bounds, on borders, and anywhere.
func placesOf(r *rand.Rand, l []api.Spot) [][2]int64 {
	var places [][2]int64
	for _, x := range bounds {
		for _, y := range bounds {
			places = append(places, [2]int64{x, y})
		}
	}
	for range 20 {
		places = append(places, [2]int64{borders(r), borders(r)}, [2]int64{r.Int63n(span + 1), r.Int63n(span + 1)})
		if len(l) > 0 {
			s := l[r.Intn(len(l))]
			far := int64(1) << r.Intn(26)
			places = append(places, [2]int64{s.X, s.Y})
			places = append(places, [2]int64{kept(s.X + r.Int63n(2*far+1) - far), kept(s.Y + r.Int63n(2*far+1) - far)})
		}
	}
	return places
}

// distancesOf are the bounds, and for some spots that of the spot, and those about it.
func distancesOf(r *rand.Rand, l []api.Spot, x, y int64) []int64 {
	distances := append([]int64{2, int64(1) << r.Intn(26), r.Int63n(span + 1)}, bounds...)
	for range min(len(l), 5) {
		far := root(squared(l[r.Intn(len(l))], x, y))
		for _, d := range []int64{far - 1, far, far + 1} {
			if d >= 0 && d <= span {
				distances = append(distances, d)
			}
		}
	}
	return distances
}
