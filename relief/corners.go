package relief

import (
	"bivouac/api"
)

// corners are the heights of a cell's four corners, row by row.
type corners [4]int64

// cell is the corners of the cell (i, j), if there is one.
func cell(m api.Map, i, j int) (corners, api.Errno) {
	if Check(m) != api.OK {
		return corners{}, api.ErrArg
	}
	if i < 0 || i >= m.W || j < 0 || j >= m.H {
		return corners{}, api.ErrRange
	}
	return cornersOf(m, i, j), api.OK
}

// cornersOf takes a valid map, and a cell that it has.
func cornersOf(m api.Map, i, j int) corners {
	row := m.W + 1
	first := row*j + i
	return corners{
		int64(m.Corners[first]), int64(m.Corners[first+1]),
		int64(m.Corners[first+row]), int64(m.Corners[first+row+1]),
	}
}

// least of heights: of none it is the greatest that a height may be.
func least(heights ...int64) int64 {
	found := int64(api.MaxHeight)
	for _, h := range heights {
		found = min(found, h)
	}
	return found
}

// greatest of heights: of none it is 0.
func greatest(heights ...int64) int64 {
	found := int64(0)
	for _, h := range heights {
		found = max(found, h)
	}
	return found
}
