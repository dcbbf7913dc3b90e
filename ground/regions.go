package ground

import "iter"

// none is the region of a cell that is not open.
const none = -1

// label gives each cell of a grid of w by h the number of its region.
func label(w, h int, grid []bool) []int {
	regions := make([]int, len(grid))
	for cell := range regions {
		regions[cell] = none
	}
	// Cells are taken in the order of their numbers: the first one of a region is its least.
	for cell, open := range grid {
		if open && regions[cell] == none {
			spread(w, h, grid, regions, cell)
		}
	}
	return regions
}

// spread gives the number first to all cells that can be reached from the cell first.
func spread(w, h int, grid []bool, regions []int, first int) {
	regions[first] = first
	stack := []int{first}
	for len(stack) > 0 {
		cell := stack[len(stack)-1]
		stack = stack[:len(stack)-1]
		for next := range neighbors(w, h, cell) {
			if !grid[next] || regions[next] != none {
				continue
			}
			// Numbered when it is put on the stack, and not when it is taken off, a cell is put there once.
			regions[next] = first
			stack = append(stack, next)
		}
	}
}

// neighbors are the cells that share a side with a cell of a grid of w by h.
func neighbors(w, h, cell int) iter.Seq[int] {
	i, j := cell%w, cell/w
	return func(yield func(int) bool) {
		if j > 0 && !yield(cell-w) {
			return
		}
		if i > 0 && !yield(cell-1) {
			return
		}
		if i < w-1 && !yield(cell+1) {
			return
		}
		if j < h-1 {
			yield(cell + w)
		}
	}
}
