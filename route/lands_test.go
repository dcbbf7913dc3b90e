package route_test

import (
	"math"
	"math/rand"
	"slices"
	"testing"

	"bivouac/api"
	"bivouac/route"
)

const maxSide = 64 // api.MaxSide, as the document says it

// noSides are beside 1 to maxSide, some of which would be within if they were cut to fewer bits.
var noSides = []int{
	-1, 0, maxSide + 1, -2, -maxSide, 2 * maxSide, 1000, math.MinInt, math.MinInt + 1, math.MaxInt, math.MaxInt - 1,
	256 + 5, 65536 + 5, 1<<32 + 5, 1<<62 + 5, 5 - 1<<32, math.MinInt + 5, 1 << 32, -1 << 32, 1 << 62,
}

// sketch is a land of rows of cells, of which those of points are open.
func sketch(rows ...string) api.Land {
	l := api.Land{W: len(rows[0]), H: len(rows)}
	for _, row := range rows {
		for _, c := range row {
			l.Open = append(l.Open, c == '.')
		}
	}
	return l
}

// landOf is a land of open or of closed cells.
func landOf(w, h int, open bool) api.Land {
	l := api.Land{W: w, H: h, Open: make([]bool, w*h)}
	for c := range l.Open {
		l.Open[c] = open
	}
	return l
}

// randomOf is a land of which of a hundred cells so many are open.
func randomOf(r *rand.Rand, w, h, open int) api.Land {
	l := landOf(w, h, false)
	for c := range l.Open {
		l.Open[c] = r.Intn(100) < open
	}
	return l
}

// spottedOf is an open land with some closed cells.
func spottedOf(r *rand.Rand, w, h, closed int) api.Land {
	l := landOf(w, h, true)
	for range closed {
		l.Open[r.Intn(w*h)] = false
	}
	return l
}

// halvesOf is a land with a closed column or row between open cells: two parts, or, through a gap, one.
func halvesOf(w, h int, column, gap bool) api.Land {
	l := landOf(w, h, true)
	for c := range l.Open {
		if column && c%w == w/2 || !column && c/w == h/2 {
			l.Open[c] = gap && (column && c/w == h-1 || !column && c%w == w-1)
		}
	}
	return l
}

// boardOf is a land like a chess board: from no open cell a step is possible.
func boardOf(w, h int) api.Land {
	l := landOf(w, h, false)
	for c := range l.Open {
		l.Open[c] = (c%w+c/w)%2 == 0
	}
	return l
}

// snakeOf is a land of one long way, row by row, to and fro.
func snakeOf(w, h int) api.Land {
	l := landOf(w, h, true)
	for c := range l.Open {
		turn := w - 1
		if c/w%4 == 3 {
			turn = 0
		}
		l.Open[c] = c/w%2 == 0 || c%w == turn
	}
	return l
}

// mazeOf is a land of narrow ways between walls, of which some may be broken.
func mazeOf(r *rand.Rand, w, h, broken int) api.Land {
	l := landOf(w, h, false)
	l.Open[0] = true
	for dug := []int{0}; len(dug) > 0; {
		c := dug[len(dug)-1]
		stuck := true
		for _, k := range r.Perm(4) {
			i, j := c%w+[]int{2, 0, -2, 0}[k], c/w+[]int{0, 2, 0, -2}[k]
			if i >= 0 && i < w && j >= 0 && j < h && !l.Open[w*j+i] {
				l.Open[w*j+i], l.Open[(w*j+i+c)/2] = true, true
				dug = append(dug, w*j+i)
				stuck = false
				break
			}
		}
		if stuck {
			dug = dug[:len(dug)-1]
		}
	}
	for range broken {
		l.Open[r.Intn(w*h)] = true
	}
	return l
}

// smallLands are of a few cells, with all that can be about a step.
func smallLands() []api.Land {
	l := []api.Land{
		landOf(1, 1, true), landOf(1, 1, false), landOf(2, 2, true), landOf(3, 3, true), landOf(3, 2, true), landOf(5, 4, true),
		landOf(4, 1, true), landOf(1, 4, true), sketch("..#.."), sketch(".", "#", "."), sketch(".#", ".."), sketch("..", "#."),
		sketch(".#", "#."), sketch("#.", ".#"), sketch("..", ".#"), sketch("#.", ".."), sketch(".#.", "..."), sketch("...", ".#.", "..."),
		sketch("..#.", "..#.", "...."), sketch(".....", ".###.", ".....", ".###.", "....."), sketch("#####", "#...#", "#.#.#", "#####"),
		sketch("...#...", "...#...", "...#...", "......."), sketch(".#.....", ".#.###.", ".#.#.#.", ".#.#...", "...####"),
	}
	for open := range 1 << 9 { // of each nine cells
		nine := landOf(3, 3, false)
		for c := range nine.Open {
			nine.Open[c] = open>>c&1 == 1
		}
		if nine.Open[4] {
			l = append(l, nine)
		}
	}
	return l
}

// greatLands are up to maxSide by maxSide: without any closed cell and without any open one, in parts, mazes and random ones.
func greatLands() []api.Land {
	r := rand.New(rand.NewSource(13))
	var l []api.Land
	for _, s := range [][2]int{{64, 64}, {63, 64}, {64, 63}, {63, 63}, {64, 1}, {1, 64}, {63, 2}, {2, 63}, {17, 40}} {
		w, h := s[0], s[1]
		l = append(l, landOf(w, h, true), randomOf(r, w, h, 80), mazeOf(r, w, h, w*h/20), spottedOf(r, w, h, 6))
	}
	l = append(l, landOf(64, 64, false), boardOf(64, 64), snakeOf(64, 64), snakeOf(63, 61), mazeOf(r, 63, 63, 0), mazeOf(r, 64, 64, 0))
	for _, column := range []bool{false, true} {
		l = append(l, halvesOf(64, 64, column, false), halvesOf(63, 64, column, true), halvesOf(20, 30, column, true))
	}
	for _, open := range []int{5, 30, 45, 55, 65, 75, 90, 97, 99} {
		l = append(l, randomOf(r, 64, 64, open), randomOf(r, 1+r.Intn(64), 1+r.Intn(64), open))
	}
	return l
}

// lands are all of them, and drawn ones of a middle size.
func lands() []api.Land {
	l := append(smallLands(), greatLands()...)
	r := rand.New(rand.NewSource(14))
	for range 150 {
		w, h := 1+r.Intn(12), 1+r.Intn(12)
		l = append(l, randomOf(r, w, h, 40+r.Intn(61)), mazeOf(r, w, h, r.Intn(9)), spottedOf(r, w, h, r.Intn(5)))
	}
	return l
}

// directions are the chapter's steps, in its order.
var directions = [][2]int{{1, 0}, {1, 1}, {0, 1}, {-1, 1}, {-1, 0}, {-1, -1}, {0, -1}, {1, -1}}

// isOpen: is there such a cell, and is it open?
func isOpen(l api.Land, i, j int) bool {
	return 0 <= i && i < l.W && 0 <= j && j < l.H && l.Open[j*l.W+i]
}

// stepOf is where the step of a number leads from a cell, and what it costs, if it is possible.
func stepOf(l api.Land, cell, k int) (to, cost int, possible bool) {
	i, j := cell%l.W, cell/l.W
	x, y := i+directions[k][0], j+directions[k][1]
	if !isOpen(l, i, j) || !isOpen(l, x, y) {
		return 0, 0, false
	}
	if k%2 == 0 {
		return y*l.W + x, 2, true
	}
	return y*l.W + x, 3, isOpen(l, x, j) && isOpen(l, i, y)
}

// costsOf is the cost from each cell to one, by a search cost by cost.
func costsOf(l api.Land, to int) []int {
	costs := slices.Repeat([]int{-1}, l.W*l.H)
	if !l.Open[to] {
		return costs
	}
	reached := make([][]int, 3*l.W*l.H+4) // by costs; no way costs more than an aslant step a cell
	reached[0] = []int{to}
	for cost := range reached {
		for _, c := range reached[cost] {
			if costs[c] >= 0 {
				continue
			}
			costs[c] = cost
			for k := range directions {
				// Steps cost the same in both directions.
				if from, more, possible := stepOf(l, c, k); possible && costs[from] < 0 {
					reached[cost+more] = append(reached[cost+more], from)
				}
			}
		}
	}
	return costs
}

// pathOf is the chapter's path from a cell to the one of which the costs are.
func pathOf(l api.Land, costs []int, from int) []int {
	path := []int{from}
	for c := from; costs[c] > 0; c = path[len(path)-1] {
		for k := range directions {
			if next, cost, possible := stepOf(l, c, k); possible && cost+costs[next] == costs[c] {
				path = append(path, next)
				break
			}
		}
	}
	return path
}

// cellsOf are up to so many cells of a land, some at its edges, and about two thirds of them open if any are.
func cellsOf(r *rand.Rand, l api.Land, n int) []int {
	size := len(l.Open)
	edges := []int{0, size - 1, l.W - 1, size - l.W, size / 2}
	var cells []int
	for range n {
		c := edges[r.Intn(len(edges))]
		for try := 0; try < 20 && (try == 0 && r.Intn(3) > 0 || !l.Open[c] && r.Intn(3) > 0); try++ {
			c = r.Intn(size)
		}
		cells = append(cells, c)
	}
	slices.Sort(cells)
	return slices.Compact(cells)
}

// noCells are numbers of no cells of a land, some of which would be of one if they were cut to fewer bits.
func noCells(l api.Land) []int {
	n := len(l.Open)
	return []int{-1, n, n + 1, -n, -2, 4096, 1 << 20, math.MinInt, math.MinInt + 1, math.MaxInt, math.MaxInt - 1, 1 << 32, -1 << 32, 1 << 62, 1 << 16 << 16, math.MaxInt32 + 1, math.MinInt32}
}

// invalidLands are wrong in a side, in the number of cells, or in both.
func invalidLands() []api.Land {
	var l []api.Land
	for _, no := range noSides {
		for _, side := range []int{1, 2, 5, maxSide} {
			for _, n := range []int{0, 1, side, 5 * side, max(0, min(no, 200)) * side} {
				l = append(l, api.Land{W: no, H: side, Open: make([]bool, n)}, api.Land{W: side, H: no, Open: make([]bool, n)})
			}
		}
		for _, other := range noSides {
			// What the product wraps round to.
			n := max(0, min(int(uint64(no)*uint64(other)), 5000))
			l = append(l, api.Land{W: no, H: other, Open: make([]bool, n)}, api.Land{W: no, H: other})
		}
	}
	for _, s := range [][2]int{{1, 1}, {1, 2}, {2, 2}, {3, 5}, {63, 1}, {1, 63}, {64, 64}, {63, 64}, {1, 64}, {64, 63}} {
		w, h := s[0], s[1]
		for _, n := range []int{0, w*h - 1, w*h + 1, (w + 1) * (h + 1), 2 * w * h} {
			l = append(l, api.Land{W: w, H: h, Open: make([]bool, n)})
		}
		l = append(l, api.Land{W: w, H: h})
	}
	// A product that wraps round to just so many cells.
	l = append(l, api.Land{W: 1 << 32, H: 1 << 32}, api.Land{W: 3, H: 6148914691236517206, Open: make([]bool, 2)})
	l = append(l, api.Land{W: 6148914691236517206, H: 3, Open: make([]bool, 2)}, api.Land{W: 1<<62 + 1, H: 4, Open: make([]bool, 4)})
	l = append(l, api.Land{W: -2, H: -3, Open: make([]bool, 6)}, api.Land{W: 65, H: 65, Open: make([]bool, 65*65)}, api.Land{})
	for k := range l {
		for c := range l[k].Open {
			l[k].Open[c] = true
		}
	}
	return l
}

func costs(t *testing.T, l api.Land, to int) []int {
	t.Helper()
	list, e := route.Costs(l, to)
	if e != api.OK {
		t.Fatalf("Costs of %d by %d to %d: %d", l.W, l.H, to, e)
	}
	return list
}

func way(t *testing.T, l api.Land, from, to, most int) []int {
	t.Helper()
	path, e := route.Way(l, from, to, most)
	if e != api.OK {
		t.Fatalf("Way of %d by %d from %d to %d, %d at most: %d", l.W, l.H, from, to, most, e)
	}
	return path
}

// cloned is a land that shares nothing with another one.
func cloned(l api.Land) api.Land {
	l.Open = slices.Clone(l.Open)
	return l
}

// drawing is a land as it is sketched.
func drawing(l api.Land) string {
	text := []byte{'\n'}
	for c, open := range l.Open {
		if open {
			text = append(text, '.')
		} else {
			text = append(text, '#')
		}
		if c%l.W == l.W-1 {
			text = append(text, '\n')
		}
	}
	return string(text)
}
