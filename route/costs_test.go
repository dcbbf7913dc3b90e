package route_test

import (
	"math/rand"
	"slices"
	"testing"

	"bivouac/api"
	"bivouac/route"
)

func TestCostsOfInvalidLands(t *testing.T) { // P13.1, R2
	for _, l := range invalidLands() {
		// ErrArg is named ahead of ErrRange.
		for _, to := range []int{0, 1, 5, -1, len(l.Open), len(l.Open) - 1, 1 << 32, -1 << 63, 1<<63 - 1} {
			if list, e := route.Costs(l, to); e != api.ErrArg || len(list) != 0 {
				t.Fatalf("Costs of %d by %d with %d cells, to %d: %d costs, %d", l.W, l.H, len(l.Open), to, len(list), e)
			}
		}
	}
}

func TestCostsToNoCell(t *testing.T) { // P13.1, R2
	for _, l := range lands() {
		for _, to := range noCells(l) {
			if to >= 0 && to < len(l.Open) {
				continue
			}
			if list, e := route.Costs(l, to); e != api.ErrRange || len(list) != 0 {
				t.Fatalf("Costs of %d by %d, to %d: %v, %d", l.W, l.H, to, list, e)
			}
		}
	}
}

func TestSidesOfLands(t *testing.T) { // P13.1
	sides := []int{1, 2, maxSide - 1, maxSide}
	for _, w := range sides {
		for _, h := range sides {
			l := landOf(w, h, true)
			for _, to := range []int{0, w*h - 1} {
				if list := costs(t, l, to); len(list) != w*h || list[to] != 0 {
					t.Errorf("Costs of %d by %d, to %d: %d costs", w, h, to, len(list))
				}
			}
		}
	}
}

// On an open land a way goes aslant as long as both numbers differ.
func TestCostsOfOpenLands(t *testing.T) { // P13.1
	for _, s := range [][2]int{{1, 1}, {1, 9}, {9, 1}, {2, 2}, {7, 12}, {maxSide, maxSide}} {
		l := landOf(s[0], s[1], true)
		for _, to := range []int{0, len(l.Open) - 1, len(l.Open) / 2, s[0] - 1} {
			for c, cost := range costs(t, l, to) {
				dx, dy := max(c%s[0]-to%s[0], to%s[0]-c%s[0]), max(c/s[0]-to/s[0], to/s[0]-c/s[0])
				if want := 3*min(dx, dy) + 2*(max(dx, dy)-min(dx, dy)); cost != want {
					t.Fatalf("the cost from %d to %d of %v: %d, want %d", c, to, s, cost, want)
				}
			}
		}
	}
}

func TestCostsBySketches(t *testing.T) { // P13.1
	for _, c := range []struct {
		what string
		l    api.Land
		to   int
		want []int
	}{
		{"one cell", sketch("."), 0, []int{0}},
		{"one closed cell", sketch("#"), 0, []int{-1}},
		{"to a closed cell", sketch(".#.", "..."), 1, []int{-1, -1, -1, -1, -1, -1}},
		{"closed cells", sketch(".#.", "..."), 0, []int{0, -1, 8, 2, 4, 6}},
		{"in two parts", sketch("..#.."), 4, []int{-1, -1, -1, 2, 0}},
		{"aslant past nothing", sketch("..", ".."), 0, []int{0, 2, 2, 3}},
		{"aslant past one, to the right", sketch(".#", ".."), 0, []int{0, -1, 2, 4}},
		{"aslant past one, below", sketch("..", "#."), 0, []int{0, 2, -1, 4}},
		{"aslant past two", sketch(".#", "#."), 0, []int{0, -1, -1, -1}},
		{"aslant past two, to the left", sketch("#.", ".#"), 1, []int{-1, 0, -1, -1}},
		{"aslant past one, to the left", sketch("#.", ".."), 1, []int{-1, 0, 4, 2}},
		{"aslant past one, from the left", sketch("..", ".#"), 1, []int{2, 0, 4, -1}},
		{"about a cell", sketch("...", ".#.", "..."), 0, []int{0, 2, 4, 2, -1, 6, 4, 6, 8}},
		{"rows do not go on in the next ones", sketch("..#", "#.."), 2, []int{-1, -1, -1, -1, -1, -1}},
		{"nor to the left", sketch("..#", "#..", "..#"), 3, []int{-1, -1, -1, -1, -1, -1, -1, -1, -1}},
		{"ends of rows", sketch("#..", "..#"), 3, []int{-1, 4, 6, 0, 2, -1}},
		{"a way round aslant", sketch(".....", ".###.", "....."), 5, []int{2, 4, 6, 8, 10, 0, -1, -1, -1, 12, 2, 4, 6, 8, 10}},
	} {
		if list := costs(t, c.l, c.to); !slices.Equal(list, c.want) {
			t.Errorf("%s: %v, want %v", c.what, list, c.want)
		}
	}
}

func TestCostsAgainstASearch(t *testing.T) { // P13.1
	r := rand.New(rand.NewSource(1))
	for _, l := range lands() {
		for _, to := range cellsOf(r, l, 4) {
			list, want := costs(t, l, to), costsOf(l, to)
			if !slices.Equal(list, want) {
				for c := range want {
					if c >= len(list) || list[c] != want[c] {
						t.Fatalf("the cost from %d to %d: not %d of %d costs\n%s", c, to, want[c], len(list), drawing(l))
					}
				}
				t.Fatalf("%d costs of %d cells", len(list), len(want))
			}
		}
	}
}

func TestCostsToClosedCells(t *testing.T) { // P13.1
	for _, l := range lands() {
		to := slices.Index(l.Open, false)
		if to < 0 {
			continue
		}
		for c, cost := range costs(t, l, to) {
			if cost != -1 {
				t.Fatalf("the cost from %d to %d, which is not open: %d", c, to, cost)
			}
		}
	}
}

func TestCostsAreNewMemory(t *testing.T) { // P13.1, R3
	r := rand.New(rand.NewSource(2))
	for _, l := range greatLands() {
		for _, to := range cellsOf(r, l, 1) {
			first := costs(t, l, to)
			kept := slices.Clone(first)
			second := costs(t, l, to)
			for c := range second {
				second[c] = -7
			}
			if !slices.Equal(first, kept) || !slices.Equal(costs(t, l, to), kept) {
				t.Fatalf("costs of %d by %d to %d share memory", l.W, l.H, to)
			}
		}
	}
}
