package ground_test

import (
	"bytes"
	"math"
	"math/rand"

	"bivouac/api"
)

// classes are all that there are, by the chapter's numbers.
var classes = []int{0, 1, 2, 3, 4, 5}

// noClasses are numbers of none.
var noClasses = []int{-1, 6, 7, -6, 255, 256, 1 << 32, math.MinInt, math.MaxInt}

// flat is a map of one height.
func flat(w, h, water int, height byte) api.Map {
	return api.Map{W: w, H: h, Water: water, Corners: bytes.Repeat([]byte{height}, (w+1)*(h+1))}
}

// cell is a map of one cell.
func cell(water int, corners ...byte) api.Map {
	return api.Map{W: 1, H: 1, Water: water, Corners: corners}
}

// shaped is a map whose corners have the heights that a function says.
func shaped(w, h, water int, height func(i, j int) int) api.Map {
	m := flat(w, h, water, 0)
	for j := range h + 1 {
		for i := range w + 1 {
			m.Corners[(w+1)*j+i] = byte(height(i, j))
		}
	}
	return m
}

// checkerboard is dry; the cells with an odd i + j have the slope 15, the others 30.
func checkerboard(w, h int) api.Map {
	return shaped(w, h, 0, func(i, j int) int { return []int{0, 15, 30, 15}[(i+j)%4] })
}

// columns are terraces of one cell's width with cliffs of one cell's width in between; rows likewise.
func columns(w, h int) api.Map {
	return shaped(w, h, 0, func(i, j int) int { return i / 2 % 2 * 255 })
}

func rows(w, h int) api.Map {
	return shaped(w, h, 0, func(i, j int) int { return j / 2 % 2 * 255 })
}

// corner is one of a drawing.
type corner struct{ i, j int }

// canal has water of the depth 30 just at the cells that touch a drawn corner.
func canal(w, h int, drawn []corner) api.Map {
	m := flat(w, h, 30, 255)
	for _, c := range drawn {
		m.Corners[(w+1)*c.j+c.i] = 0
	}
	return m
}

// walls is flat and dry but for the drawn corners, all cells about which are steep.
func walls(w, h int, drawn []corner) api.Map {
	m := flat(w, h, 0, 0)
	for _, c := range drawn {
		m.Corners[(w+1)*c.j+c.i] = 255
	}
	return m
}

// spiral draws a line from a corner of the map inward; each turn is three corners from the one before.
func spiral(w, h int) []corner {
	var line []corner
	left, top, right, bottom := 1, 1, w-1, h-1
	at := corner{left, top}
	draw := func(to corner) {
		for at != to {
			line = append(line, at)
			at.i += sign(to.i - at.i)
			at.j += sign(to.j - at.j)
		}
	}
	for right-left >= 3 && bottom-top >= 3 {
		draw(corner{right, top})
		draw(corner{right, bottom})
		draw(corner{left, bottom})
		draw(corner{left, top + 3})
		left, top, right, bottom = left+3, top+3, right-3, bottom-3
		draw(corner{left, top})
	}
	return append(line, at)
}

func sign(n int) int {
	if n < 0 {
		return -1
	}
	return min(n, 1)
}

// comb draws a back along the bottom, and teeth from it upward; each tooth is longer than the one to its left,
// so that the least cell is in the last tooth.
func comb(w, h int) []corner {
	var line []corner
	for i := 1; i < w; i++ {
		line = append(line, corner{i, h - 1})
		if i%3 != 1 {
			continue
		}
		for j := max(h-1-i, 1); j < h-1; j++ {
			line = append(line, corner{i, j})
		}
	}
	return line
}

// turned are the eight maps that arise by mirroring a map and by exchanging its sides.
func turned(m api.Map) []api.Map {
	var list []api.Map
	at := func(i, j int) int { return int(m.Corners[(m.W+1)*j+i]) }
	for k := range 4 {
		of := func(i, j int) int {
			if k%2 == 1 {
				i = m.W - i
			}
			if k/2 == 1 {
				j = m.H - j
			}
			return at(i, j)
		}
		list = append(list, shaped(m.W, m.H, m.Water, of))
		list = append(list, shaped(m.H, m.W, m.Water, func(i, j int) int { return of(j, i) }))
	}
	return list
}

// hilly is a map whose slopes and depths are often near the bounds of the classes.
func hilly(seed int64, w, h int) api.Map {
	r := rand.New(rand.NewSource(seed))
	steep, base := 1+r.Intn(45), r.Intn(200)
	return shaped(w, h, min(255, base+r.Intn(50)), func(i, j int) int {
		if r.Intn(20) == 0 {
			return r.Intn(256)
		}
		return base + r.Intn(steep)
	})
}

// sides are those of one cell, of one row, of one column, different ones, and the greatest.
var sides = [][2]int{{1, 1}, {2, 1}, {1, 2}, {2, 2}, {3, 2}, {2, 3}, {64, 1}, {1, 64}, {7, 5}, {5, 9}, {63, 17}, {16, 64}, {64, 64}}

// maps are valid ones of every shape.
func maps() []api.Map {
	var list []api.Map
	for k, s := range sides {
		w, h := s[0], s[1]
		list = append(list, flat(w, h, 0, 0), flat(w, h, 255, 0), flat(w, h, 100, 80))
		list = append(list, checkerboard(w, h), columns(w, h), rows(w, h))
		for n := range 6 {
			list = append(list, hilly(int64(100*k+n), w, h))
		}
	}
	for _, s := range [][2]int{{64, 64}, {41, 23}, {10, 10}} {
		for _, drawn := range [][]corner{spiral(s[0], s[1]), comb(s[0], s[1])} {
			list = append(list, turned(canal(s[0], s[1], drawn))...)
			list = append(list, turned(walls(s[0], s[1], drawn))...)
		}
	}
	return list
}

// wrong are maps that are not valid.
func wrong() []api.Map {
	long := make([]byte, 66*66)
	of := func(w, h, water, corners int) api.Map {
		return api.Map{W: w, H: h, Water: water, Corners: long[:corners]}
	}
	return []api.Map{
		{},
		of(0, 1, 0, 2), of(1, 0, 0, 2), of(0, 0, 0, 1), // no side
		of(-1, 1, 0, 0), of(1, -1, 0, 0), of(-3, -3, 0, 4),
		of(65, 1, 0, 132), of(1, 65, 0, 132), of(65, 65, 0, 66*66), // too great a side
		of(math.MinInt, 1, 0, 4), of(1, math.MinInt, 0, 4), of(math.MaxInt, 1, 0, 4), of(1, math.MaxInt, 0, 4),
		of(math.MaxInt, math.MaxInt, 0, 0), of(1<<32-1, 1<<32-1, 0, 0), of(1<<32, 1<<32, 0, 1),
		of(1, 1, -1, 4), of(1, 1, 256, 4), of(1, 1, math.MinInt, 4), of(1, 1, math.MaxInt, 4), // water
		of(1, 1, 5, 3), of(1, 1, 5, 0), of(2, 3, 5, 11), of(64, 64, 255, 65*65-1), // too few corners
		of(1, 1, 5, 5), of(2, 3, 5, 13), of(3, 2, 5, 66*66), of(64, 64, 0, 65*65+1), // too many
	}
}

// measures are the slope and the depth of a cell, by the words of chapter 6.
func measures(m api.Map, i, j int) (slope, depth int) {
	k := (m.W+1)*j + i
	a, b, c, d := int(m.Corners[k]), int(m.Corners[k+1]), int(m.Corners[k+m.W+1]), int(m.Corners[k+m.W+2])
	floor := min(a, b, c, d)
	return max(a, b, c, d) - floor, max(m.Water-floor, 0)
}

// isOpen is the chapter's table.
func isOpen(class, slope, depth int) bool {
	return []bool{
		slope < 25 && depth < 13,
		depth != 0 || slope < 17,
		depth > 15,
		depth > 23,
		slope < 21,
		true,
	}[class]
}

// gridOf is each cell's answer by the chapter's table.
func gridOf(m api.Map, class int) []bool {
	grid := make([]bool, m.W*m.H)
	for n := range grid {
		slope, depth := measures(m, n%m.W, n/m.W)
		grid[n] = isOpen(class, slope, depth)
	}
	return grid
}

// regionsOf joins cells pair by pair: each points to one of its region with a lesser number, or to itself.
func regionsOf(m api.Map, class int) []int {
	grid := gridOf(m, class)
	to := make([]int, len(grid))
	least := func(n int) int {
		for to[n] != n {
			n = to[n]
		}
		return n
	}
	join := func(a, b int) {
		if grid[a] && grid[b] {
			a, b = least(a), least(b)
			to[max(a, b)] = min(a, b)
		}
	}
	for n := range to {
		to[n] = n
	}
	for n := range to {
		if n%m.W+1 < m.W {
			join(n, n+1)
		}
		if n+m.W < len(to) {
			join(n, n+m.W)
		}
	}
	for n := range to {
		to[n] = least(n) // of a lesser cell it is done already, and stays
	}
	for n := range to {
		if !grid[n] {
			to[n] = -1
		}
	}
	return to
}
