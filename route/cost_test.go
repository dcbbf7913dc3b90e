package route_test

import (
	"math/rand"
	"testing"

	"bivouac/api"
	"bivouac/route"
)

// cost holds what Cost answers, and that it is 0 beside an error.
func cost(t *testing.T, l api.Land, from, to, want int, wantE api.Errno) {
	t.Helper()
	if n, e := route.Cost(l, from, to); n != want || e != wantE {
		t.Fatalf("Cost of %d by %d, from %d to %d: %d, %d, want %d, %d", l.W, l.H, from, to, n, e, want, wantE)
	}
}

// anyCells are pairs of cells that may be and may not be: from, to, both.
func anyCells(l api.Land) (pairs [][2]int) {
	last := len(l.Open) - 1
	for _, no := range noCells(l) {
		if no >= 0 && no < len(l.Open) {
			continue
		}
		for _, c := range []int{0, last, last / 2, no, -1, last + 1} {
			pairs = append(pairs, [2]int{no, c}, [2]int{c, no})
		}
	}
	return pairs
}

func TestCostOfInvalidLands(t *testing.T) { // P13.2, R2
	for _, l := range invalidLands() {
		for _, c := range []int{0, 1, -1, len(l.Open), len(l.Open) - 1, -1 << 63, 1<<63 - 1} {
			cost(t, l, c, 0, 0, api.ErrArg)
			cost(t, l, 0, c, 0, api.ErrArg)
			cost(t, l, c, c, 0, api.ErrArg)
		}
	}
}

func TestCostOfNoCells(t *testing.T) { // P13.2, R2
	for _, l := range lands() {
		for _, p := range anyCells(l) {
			cost(t, l, p[0], p[1], 0, api.ErrRange)
		}
	}
}

func TestCostBySketches(t *testing.T) { // P13.2
	two := sketch("..#..", "..#..")
	cost(t, sketch("."), 0, 0, 0, api.OK)
	cost(t, sketch("#"), 0, 0, 0, api.ErrNone)
	cost(t, two, 3, 3, 0, api.OK)        // from a cell to itself
	cost(t, two, 2, 2, 0, api.ErrNone)   // which is closed
	cost(t, two, 1, 2, 0, api.ErrNone)   // to a closed cell
	cost(t, two, 2, 1, 0, api.ErrNone)   // from a closed cell
	cost(t, two, 2, 7, 0, api.ErrNone)   // both are
	cost(t, two, 1, 3, 0, api.ErrNone)   // in two parts
	cost(t, two, 8, 0, 0, api.ErrNone)   // and back
	cost(t, two, 0, 6, 3, api.OK)        // aslant
	cost(t, two, 8, 4, 3, api.OK)        // and in the other direction
	cost(t, two, 0, 5, 2, api.OK)        // straight
	cost(t, two, 1, 0, 2, api.OK)        // to the left
	cost(t, two, 10, 0, 0, api.ErrRange) // a cell below

	// The way above has a cost of 24; the one below would have 28 by straight steps alone.
	l := sketch(
		".........",
		".#######.",
		"..#####..",
		"...###...",
		"....#....",
		".........",
	)
	cost(t, l, 18, 26, 22, api.OK)
	cost(t, l, 26, 18, 22, api.OK)

	// Beside a closed cell no step leads aslant.
	bent := sketch(
		"...",
		"..#",
		"...",
	)
	cost(t, bent, 0, 8, 7, api.OK)
	cost(t, bent, 2, 8, 8, api.OK)
	cost(t, bent, 6, 2, 7, api.OK)
}

func TestCostAgainstASearchAndCosts(t *testing.T) { // P13.2
	r := rand.New(rand.NewSource(3))
	for _, l := range lands() {
		for _, to := range cellsOf(r, l, 3) {
			all, want := costs(t, l, to), costsOf(l, to)
			for _, from := range cellsOf(r, l, 6) {
				if want[from] != all[from] {
					t.Fatalf("the cost from %d to %d: %d by Costs, want %d\n%s", from, to, all[from], want[from], drawing(l))
				}
				if want[from] < 0 {
					cost(t, l, from, to, 0, api.ErrNone)
				} else {
					cost(t, l, from, to, want[from], api.OK)
				}
			}
		}
	}
}

func TestCostsOfNeighbors(t *testing.T) { // P13.2
	for _, l := range smallLands() {
		for from := range l.Open {
			for k := range directions {
				to, step, possible := stepOf(l, from, k)
				if possible {
					cost(t, l, from, to, step, api.OK)
				}
			}
		}
	}
}
