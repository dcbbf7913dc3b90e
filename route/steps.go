package route

import "bivouac/api"

const (
	none    = api.MaxWay // the cost where none is known: more than any way through a land costs
	nowhere = -1         // the number of no cell
)

// step leads to another cell.
type step struct{ i, j, cost int }

// steps are in the order in which a path prefers them.
var steps = [8]step{
	{1, 0, api.Straight}, {1, 1, api.Aslant}, {0, 1, api.Straight}, {-1, 1, api.Aslant},
	{-1, 0, api.Straight}, {-1, -1, api.Aslant}, {0, -1, api.Straight}, {1, -1, api.Aslant},
}

// visit is a cell from which a way of a cost was found.
type visit struct{ cell, cost int }

// valid: may a land be?
func valid(l api.Land) bool {
	return l.W >= 1 && l.W <= api.MaxSide && l.H >= 1 && l.H <= api.MaxSide && len(l.Open) == l.W*l.H
}

// open: is there such a cell, and is it open?
func open(l api.Land, i, j int) bool {
	return i >= 0 && i < l.W && j >= 0 && j < l.H && l.Open[l.W*j+i]
}

// after is the cell to which a step leads from an open one, if it is possible.
func after(l api.Land, cell int, s step) (int, bool) {
	i, j := cell%l.W, cell/l.W
	// A straight step has no cells at its sides: then these two are the ones that it leads from and to.
	if !open(l, i+s.i, j) || !open(l, i, j+s.j) || !open(l, i+s.i, j+s.j) {
		return nowhere, false
	}
	return cell + l.W*s.j + s.i, true
}

// spread is the cost from each cell to one. Once a cell is reached, those that cost more than it, or as much, may be left out,
// or have costs that are too great. Steps cost the same in both directions: it goes from the end.
func spread(l api.Land, to, until int) []int {
	costs := make([]int, len(l.Open))
	for c := range costs {
		costs[c] = none
	}
	if !l.Open[to] {
		return costs
	}
	costs[to] = 0
	visits := newHeap(func(a, b visit) bool { return a.cost < b.cost })
	visits.put(visit{to, 0})
	for v, ok := visits.take(); ok && v.cell != until; v, ok = visits.take() {
		if v.cost == costs[v.cell] { // else a cheaper way was found in between
			visitAll(l, costs, visits, v)
		}
	}
	return costs
}

// visitAll lowers the costs from the cells about one to which there is a cheaper way through it.
func visitAll(l api.Land, costs []int, visits *heap[visit], v visit) {
	for _, s := range steps {
		c, ok := after(l, v.cell, s)
		if cost := v.cost + s.cost; ok && cost < costs[c] {
			costs[c] = cost
			visits.put(visit{c, cost})
		}
	}
}

// descend is the path from a cell down to the one from which the cost is 0.
func descend(l api.Land, costs []int, from int) []int {
	path := []int{from}
cells:
	for c := from; costs[c] > 0; {
		for _, s := range steps {
			if next, ok := after(l, c, s); ok && costs[next]+s.cost == costs[c] {
				path = append(path, next)
				c = next
				continue cells
			}
		}
		break // never: the cost is that of a way, which begins with a step
	}
	return path
}
