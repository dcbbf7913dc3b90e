package ray_test

import (
	"bytes"
	"math"
	"math/rand"

	"bivouac/api"
)

// flat is a map of one height.
func flat(w, h, height int) api.Map {
	return api.Map{W: w, H: h, Water: 0, Corners: bytes.Repeat([]byte{byte(height)}, (w+1)*(h+1))}
}

// shaped is a map whose corners have the heights that a function says.
func shaped(w, h int, height func(i, j int) int) api.Map {
	m := flat(w, h, 0)
	for j := range h + 1 {
		for i := range w + 1 {
			m.Corners[(w+1)*j+i] = byte(height(i, j))
		}
	}
	return m
}

// raised is a map with one corner at another height.
func raised(m api.Map, i, j, height int) api.Map {
	m.Corners = bytes.Clone(m.Corners)
	m.Corners[(m.W+1)*j+i] = byte(height)
	return m
}

// hill has its top in the middle, bowl its bottom.
func hill(w, h int) api.Map {
	return shaped(w, h, func(i, j int) int { return max(0, 255-3*(abs(2*i-w)+abs(2*j-h))) })
}

func bowl(w, h int) api.Map {
	return shaped(w, h, func(i, j int) int { return min(255, 2*(abs(2*i-w)+abs(2*j-h))) })
}

// slope rises to greater i and j, and falls the other way round.
func slope(w, h int) api.Map {
	return shaped(w, h, func(i, j int) int { return 255 * (i + j) / (w + h) })
}

// waves are ridges across both directions.
func waves(w, h int) api.Map {
	return shaped(w, h, func(i, j int) int { return []int{20, 26, 23, 20, 21}[i%5] + []int{0, 0, 9, 2}[j%4] })
}

// rough has heights that differ by less than steep, but for some needles.
func rough(seed int64, w, h, steep int) api.Map {
	r := rand.New(rand.NewSource(seed))
	base := r.Intn(257 - steep)
	return shaped(w, h, func(i, j int) int {
		if r.Intn(40) == 0 {
			return r.Intn(256)
		}
		return base + r.Intn(steep)
	})
}

func abs(n int) int { return max(n, -n) }

// sides are those of one cell, of one row, of one column, different ones, and the greatest.
var sides = [][2]int{{1, 1}, {2, 1}, {1, 2}, {2, 2}, {3, 2}, {64, 1}, {1, 64}, {7, 5}, {5, 9}, {31, 17}, {64, 64}}

// maps are valid ones of every shape.
func maps() []api.Map {
	var list []api.Map
	for k, s := range sides {
		w, h := s[0], s[1]
		list = append(list, flat(w, h, 0), flat(w, h, 255), hill(w, h), bowl(w, h), slope(w, h), waves(w, h))
		for n, steep := range []int{2, 5, 40, 256} {
			list = append(list, rough(int64(10*k+n), w, h, steep))
		}
	}
	return list
}

// wrong are maps that are not valid.
func wrong() []api.Map {
	long := make([]byte, 66*66)
	of := func(w, h, water, corners int) api.Map {
		return api.Map{W: w, H: h, Water: water, Corners: long[:corners]}
	}
	return []api.Map{
		{},
		of(0, 1, 0, 2), of(1, 0, 0, 2), of(0, 0, 0, 1), // no side
		of(-1, 1, 0, 0), of(1, -1, 0, 0), of(-3, -3, 0, 4),
		of(65, 1, 0, 132), of(1, 65, 0, 132), of(65, 65, 0, 66*66), // too great a side
		of(math.MinInt, 1, 0, 4), of(1, math.MinInt, 0, 4), of(math.MaxInt, 1, 0, 4), of(1, math.MaxInt, 0, 4),
		of(math.MaxInt, math.MaxInt, 0, 0), of(1<<32-1, 1<<32-1, 0, 0), of(1<<32, 1<<32, 0, 1),
		of(1, 1, -1, 4), of(1, 1, 256, 4), of(1, 1, math.MinInt, 4), of(1, 1, math.MaxInt, 4), // water
		of(1, 1, 5, 3), of(1, 1, 5, 0), of(2, 3, 5, 11), of(64, 64, 255, 65*65-1), // too few corners
		of(1, 1, 5, 5), of(2, 3, 5, 13), of(3, 2, 5, 66*66), of(64, 64, 0, 65*65+1), // too many
	}
}

// beside are cells that a map does not have.
func beside(m api.Map) [][2]int {
	i, j := m.W-1, m.H-1
	return [][2]int{
		{-1, 0}, {0, -1}, {-1, j}, {i, -1}, {-1, -1}, {m.W, 0}, {0, m.H}, {m.W, j}, {i, m.H}, {m.W, m.H},
		{64, 0}, {0, 64}, {1 << 32, 0}, {0, 1 << 32},
		{math.MinInt, 0}, {0, math.MinInt}, {math.MaxInt, 0}, {0, math.MaxInt},
		{math.MinInt, math.MinInt}, {math.MaxInt, math.MaxInt}, {math.MinInt, j}, {i, math.MaxInt},
	}
}

// heights are those of a cell's corners.
func heights(m api.Map, cell [2]int) (a, b, c, d int) {
	at := func(i, j int) int { return int(m.Corners[(m.W+1)*j+i]) }
	i, j := cell[0], cell[1]
	return at(i, j), at(i+1, j), at(i, j+1), at(i+1, j+1)
}

func topOf(m api.Map, cell [2]int) int   { a, b, c, d := heights(m, cell); return max(a, b, c, d) }
func floorOf(m api.Map, cell [2]int) int { a, b, c, d := heights(m, cell); return min(a, b, c, d) }

// coordinateOf is the one whose cell has the line's q-th point between its bounds, half a cell to both sides:
// v is the greatest number with 2 n v at most 2 n i + 2 q (k - i) + n, so that nothing is divided.
func coordinateOf(i, k, n, q int) int {
	v := 0
	for 2*n*(v+1) <= 2*n*i+2*q*(k-i)+n {
		v++
	}
	return v
}

// lineOf is a line by the chapter's words.
func lineOf(from, to [2]int) [][2]int {
	n := max(abs(to[0]-from[0]), abs(to[1]-from[1]))
	if n == 0 {
		return [][2]int{from}
	}
	var cells [][2]int
	for q := range n + 1 {
		cells = append(cells, [2]int{coordinateOf(from[0], to[0], n, q), coordinateOf(from[1], to[1], n, q)})
	}
	return cells
}

// seesOf holds how far each cell between two eyes rises above the one against how far the ray does.
func seesOf(m api.Map, from, to [2]int, high, low int) bool {
	a, b := floorOf(m, from)+high, floorOf(m, to)+low
	cells := lineOf(from, to)
	n := len(cells) - 1
	for q := 1; q < n; q++ {
		if (topOf(m, cells[q])-a)*n > (b-a)*q {
			return false
		}
	}
	return true
}
