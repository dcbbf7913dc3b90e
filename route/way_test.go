package route_test

import (
	"math"
	"math/rand"
	"slices"
	"testing"

	"bivouac/api"
	"bivouac/route"
)

// noWay holds that Way answers an error, and no cell beside it.
func noWay(t *testing.T, l api.Land, from, to, most int, want api.Errno) {
	t.Helper()
	if path, e := route.Way(l, from, to, most); e != want || len(path) != 0 {
		t.Fatalf("Way of %d by %d, from %d to %d, %d at most: %v, %d, want %d", l.W, l.H, from, to, most, path, e, want)
	}
}

// mosts are costs that may be asked for.
var mosts = []int{0, -1, 1, 1 << 20, math.MinInt, math.MaxInt, 1 << 32, -1 << 32}

func TestWayOfInvalidLands(t *testing.T) { // P13.3, R2
	for _, l := range invalidLands() {
		for _, c := range []int{0, -1, len(l.Open), len(l.Open) - 1, math.MinInt, math.MaxInt} {
			for _, most := range []int{0, -1, math.MaxInt} {
				noWay(t, l, c, 0, most, api.ErrArg)
				noWay(t, l, 0, c, most, api.ErrArg)
				noWay(t, l, c, c, most, api.ErrArg)
			}
		}
	}
}

func TestWayOfNoCells(t *testing.T) { // P13.3, R2
	for _, l := range lands() {
		for k, p := range anyCells(l) {
			noWay(t, l, p[0], p[1], mosts[k%len(mosts)], api.ErrRange)
		}
	}
}

func TestWayWhereThereIsNone(t *testing.T) { // P13.3, R2
	two := sketch("..#..", "..#..")
	for _, most := range mosts { // ErrNone is named ahead of ErrFar
		for _, p := range [][2]int{{2, 2}, {1, 2}, {2, 1}, {2, 7}, {1, 3}, {3, 1}, {5, 9}, {9, 0}} {
			noWay(t, two, p[0], p[1], most, api.ErrNone)
		}
	}
	board := boardOf(64, 64)
	for _, most := range mosts {
		noWay(t, board, 0, 2, most, api.ErrNone)
		noWay(t, board, 0, 65, most, api.ErrNone)
		noWay(t, board, 1, 1, most, api.ErrNone)
	}
}

func TestWayThatIsTooFar(t *testing.T) { // P13.3, R2
	r := rand.New(rand.NewSource(4))
	for _, l := range lands() {
		for _, to := range cellsOf(r, l, 2) {
			want := costsOf(l, to)
			for _, from := range cellsOf(r, l, 2) {
				cost := want[from]
				if cost < 0 {
					continue
				}
				path := way(t, l, from, to, cost)
				for _, most := range []int{cost - 1, cost + 1, cost / 2, mosts[r.Intn(len(mosts))]} {
					if most < cost {
						noWay(t, l, from, to, most, api.ErrFar)
					} else if !slices.Equal(way(t, l, from, to, most), path) {
						t.Fatalf("the way from %d to %d is another one for %d at most\n%s", from, to, most, drawing(l))
					}
				}
			}
		}
	}
}

func TestWayToTheSameCell(t *testing.T) { // P13.3
	r := rand.New(rand.NewSource(5))
	for _, l := range lands() {
		for _, c := range cellsOf(r, l, 3) {
			if !l.Open[c] {
				noWay(t, l, c, c, 0, api.ErrNone)
				continue
			}
			for _, most := range []int{0, 1, math.MaxInt} {
				if path := way(t, l, c, c, most); !slices.Equal(path, []int{c}) {
					t.Fatalf("the way from %d to itself: %v", c, path)
				}
			}
			noWay(t, l, c, c, -1, api.ErrFar)
			noWay(t, l, c, c, math.MinInt, api.ErrFar)
		}
	}
}

func TestWaysBySketches(t *testing.T) { // P13.3
	open := landOf(4, 4, true)
	for _, c := range []struct {
		what     string
		l        api.Land
		from, to int
		want     []int
	}{
		{"to the right ahead of aslant", open, 0, 7, []int{0, 1, 2, 7}},
		{"aslant to the right and down ahead of down", open, 0, 13, []int{0, 5, 9, 13}},
		{"aslant to the right and down ahead of the left", open, 3, 14, []int{3, 7, 11, 14}},
		{"down ahead of aslant to the left and down", open, 2, 13, []int{2, 6, 10, 13}},
		{"aslant to the left and down ahead of the left", open, 3, 4, []int{3, 6, 5, 4}},
		{"to the left ahead of aslant to the left and up", open, 7, 0, []int{7, 6, 5, 0}},
		{"aslant to the left and up ahead of up", open, 13, 0, []int{13, 8, 4, 0}},
		{"up ahead of aslant to the right and up", open, 13, 2, []int{13, 9, 5, 2}},
		{"to the right ahead of aslant to the right and up", open, 4, 3, []int{4, 5, 6, 3}},
		{"straight on", open, 4, 7, []int{4, 5, 6, 7}},
		{"straight down", open, 1, 13, []int{1, 5, 9, 13}},
		{"aslant on", open, 15, 0, []int{15, 10, 5, 0}},
		{"past a closed cell", sketch("..", "#."), 0, 3, []int{0, 1, 3}},
		{"about a cell: to the right ahead of down", sketch("...", ".#.", "..."), 0, 8, []int{0, 1, 2, 5, 8}},
		{"about a cell: to the left ahead of up", sketch("...", ".#.", "..."), 8, 0, []int{8, 7, 6, 3, 0}},
		{"one way only", sketch(".#...", ".#.#.", "...#."), 0, 14, []int{0, 5, 10, 11, 12, 7, 2, 3, 4, 9, 14}},
	} {
		if path := way(t, c.l, c.from, c.to, 99); !slices.Equal(path, c.want) {
			t.Errorf("%s: %v, want %v", c.what, path, c.want)
		}
	}
}

func TestWaysAgainstTheWords(t *testing.T) { // P13.3
	r := rand.New(rand.NewSource(6))
	for _, l := range lands() {
		for _, to := range cellsOf(r, l, 3) {
			want := costsOf(l, to)
			for _, from := range cellsOf(r, l, 6) {
				if want[from] < 0 {
					noWay(t, l, from, to, math.MaxInt, api.ErrNone)
					continue
				}
				if path := way(t, l, from, to, 1<<20); !slices.Equal(path, pathOf(l, want, from)) {
					t.Fatalf("the way from %d to %d: %v, want %v\n%s", from, to, path, pathOf(l, want, from), drawing(l))
				}
			}
		}
	}
}

// All ways between cells of small lands, so that each cell next to the first and to the last one is tried.
func TestAllWaysOfSmallLands(t *testing.T) { // P13.3
	for _, l := range smallLands() {
		for to := range l.Open {
			want := costsOf(l, to)
			for from, cost := range want {
				if cost < 0 {
					noWay(t, l, from, to, math.MaxInt, api.ErrNone)
				} else if path := way(t, l, from, to, cost); !slices.Equal(path, pathOf(l, want, from)) {
					t.Fatalf("the way from %d to %d: %v, want %v\n%s", from, to, path, pathOf(l, want, from), drawing(l))
				}
			}
		}
	}
}

func TestWaysAreNewMemory(t *testing.T) { // P13.3, R3
	r := rand.New(rand.NewSource(7))
	for _, l := range greatLands() {
		for _, to := range cellsOf(r, l, 1) {
			for _, from := range cellsOf(r, l, 1) {
				first, e := route.Way(l, from, to, 1<<20)
				if e != api.OK {
					continue
				}
				kept := slices.Clone(first)
				second := way(t, l, from, to, 1<<20)
				for c := range second {
					second[c] = -7
				}
				if !slices.Equal(first, kept) || !slices.Equal(way(t, l, from, to, 1<<20), kept) {
					t.Fatalf("ways of %d by %d from %d to %d share memory", l.W, l.H, from, to)
				}
			}
		}
	}
}
