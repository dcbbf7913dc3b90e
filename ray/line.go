package ray

import "iter"

// steps is how often a line goes on from its first cell to its last.
func steps(from, to [2]int) int {
	x, y := to[0]-from[0], to[1]-from[1]
	return max(x, -x, y, -y)
}

// line is the cells of a line in order, each with its index.
func line(from, to [2]int) iter.Seq2[int, [2]int] {
	n := steps(from, to)
	return func(yield func(int, [2]int) bool) {
		// Of the chapter's quotients only the remainders are kept: both begin at n, of 2 n parts of a cell.
		at, rest := from, [2]int{n, n}
		for q := 0; yield(q, at) && at != to; q++ {
			for c := range at {
				at[c], rest[c] = carry(at[c], rest[c]+2*(to[c]-from[c]), 2*n)
			}
		}
	}
}

// carry brings a remainder back to below a whole, and moves its coordinate by the cell that this takes or gives.
// One suffices: no coordinate goes farther at a step than the line does.
func carry(coordinate, rest, whole int) (int, int) {
	switch {
	case rest >= whole:
		return coordinate + 1, rest - whole
	case rest < 0:
		return coordinate - 1, rest + whole
	}
	return coordinate, rest
}
