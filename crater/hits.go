package crater

import (
	"iter"

	"bivouac/api"
	"bivouac/relief"
)

// each is hits in order, from the first one again whenever it is ranged over.
func each(hits ...api.Hit) iter.Seq[api.Hit] {
	return func(yield func(api.Hit) bool) {
		for _, h := range hits {
			if !yield(h) {
				return
			}
		}
	}
}

// after is a map behind hits.
func after(m api.Map, hits iter.Seq[api.Hit]) (api.Map, api.Errno) {
	// All hits are looked at ahead of the first that is dug: a wrong one among them leaves nothing half done.
	if relief.Check(m) != api.OK || !valid(hits) {
		return api.Map{}, api.ErrArg
	}
	corners := make([]byte, len(m.Corners))
	copy(corners, m.Corners)
	m.Corners = corners
	dig(m, hits)
	return m, api.OK
}

func valid(hits iter.Seq[api.Hit]) bool {
	for h := range hits {
		if !May(h) {
			return false
		}
	}
	return true
}

// dig lowers the corners of a valid map in place, by valid hits.
func dig(m api.Map, hits iter.Seq[api.Hit]) {
	for h := range hits {
		left, right := reach(h.I, h.Radius, m.W)
		low, high := reach(h.J, h.Radius, m.H)
		for j := low; j <= high; j++ {
			for i := left; i <= right; i++ {
				c := (m.W+1)*j + i
				m.Corners[c] = byte(max(0, int(m.Corners[c])-lowers(h, i, j)))
			}
		}
	}
}

// reach is the first and the last corner of a side of so many cells that a hit may lower;
// beside the map the last one is below the first.
func reach(middle, radius, cells int) (first, last int) {
	// A corner just at the radius stays as it is.
	return max(0, middle-radius+1), min(cells, middle+radius-1)
}
