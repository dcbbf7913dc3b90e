package near

import (
	"cmp"
	"iter"
	"slices"

	"bivouac/api"
)

// side is a square's. All squares are then 17 by 17, about as many as there may be spots: a search that reaches
// over all of them takes hardly longer than one through the list.
const side = api.Span / 16

// entry is a spot, and its index in the list.
type entry struct {
	index int
	spot  api.Spot
}

// square is the one that contains a place, or, of a place that is not valid, the nearest one.
func square(x, y int64) [2]int64 {
	return [2]int64{min(max(x, 0), api.Span) / side, min(max(y, 0), api.Span) / side}
}

// squared is the squared distance of an entry's spot.
func (e entry) squared(x, y int64) int64 {
	dx, dy := e.spot.X-x, e.spot.Y-y
	return dx*dx + dy*dy
}

// within is the entries within a distance of at most two Spans of a valid place, square by square.
func (n *Index) within(x, y, r int64) iter.Seq[entry] {
	return func(yield func(entry) bool) {
		first, last := square(x-r, y-r), square(x+r, y+r)
		for i := first[0]; i <= last[0]; i++ {
			for j := first[1]; j <= last[1]; j++ {
				for _, e := range n.squares[[2]int64{i, j}] {
					if e.squared(x, y) <= r*r && !yield(e) {
						return
					}
				}
			}
		}
	}
}

// indexes are those of the entries within a distance that are not below the least one, in ascending order.
func (n *Index) indexes(x, y, r int64, least int) []int {
	var list []int
	for e := range n.within(x, y, r) {
		if e.index >= least {
			list = append(list, e.index)
		}
	}
	slices.Sort(list)
	return list
}

// some is the entries of the first reach that has any, of an index that is not empty: all others are farther than these.
func (n *Index) some(x, y int64) []entry {
	var found []entry
	// From a corner to the opposite one it is less than two Spans: no spot is farther.
	for r := int64(side); len(found) == 0 && r <= 2*api.Span; r *= 2 {
		found = slices.Collect(n.within(x, y, r))
	}
	return found
}

// nearest is the one of the least squared distance, of several the one of the least index.
func nearest(l []entry, x, y int64) entry {
	return slices.MinFunc(l, func(a, b entry) int {
		return cmp.Or(cmp.Compare(a.squared(x, y), b.squared(x, y)), cmp.Compare(a.index, b.index))
	})
}

// all is every entry, in the order of their indexes.
func (n *Index) all() []entry {
	var list []entry
	for _, l := range n.squares {
		list = append(list, l...)
	}
	slices.SortFunc(list, func(a, b entry) int { return cmp.Compare(a.index, b.index) })
	return list
}
