package ray

import (
	"bivouac/api"
)

// sees takes a valid map, cells that it has, and heights that an eye may have.
func sees(m api.Map, from, to [2]int, high, low int) bool {
	blocks := blocker(m, from, to, floor(m, from)+high, floor(m, to)+low)
	for q, cell := range line(from, to) {
		if blocks(q, cell) {
			return false
		}
	}
	return true
}

// blocker tells which cells block the line between eyes at the heights a and b.
func blocker(m api.Map, from, to [2]int, a, b int) func(q int, cell [2]int) bool {
	n := steps(from, to)
	return func(q int, cell [2]int) bool {
		// Multiplied by n, both sides stay whole numbers, and nothing is rounded.
		return cell != from && cell != to && top(m, cell)*n > a*(n-q)+b*q
	}
}

// top and floor take a valid map, and a cell that it has.
func top(m api.Map, cell [2]int) int {
	c := corners(m, cell)
	return int(max(c[0], c[1], c[2], c[3]))
}

func floor(m api.Map, cell [2]int) int {
	c := corners(m, cell)
	return int(min(c[0], c[1], c[2], c[3]))
}

// corners are the heights of a cell's four corners.
func corners(m api.Map, cell [2]int) [4]byte {
	row := m.W + 1
	first := row*cell[1] + cell[0]
	return [4]byte{m.Corners[first], m.Corners[first+1], m.Corners[first+row], m.Corners[first+row+1]}
}
