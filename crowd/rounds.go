package crowd

import (
	"slices"

	"bivouac/api"
)

// crowd is things on their way; moved and where are its own.
type crowd struct {
	open  []bool
	on    map[int]int // by cells: the thing that is on it
	where []int
	wish  []int
	moved []bool
}

// settled is a crowd in which nothing moves any more.
func settled(open []bool, where, wish []int) *crowd {
	c := &crowd{
		open:  open,
		on:    things(where),
		where: slices.Clone(where),
		wish:  wish,
		moved: make([]bool, len(where)),
	}
	for c.round() {
	}
	return c
}

// round lets each thing move that can, in order: does one move?
func (c *crowd) round() bool {
	goes := false
	for i := range c.where {
		if c.can(i) {
			c.move(i)
			goes = true
		}
	}
	return goes
}

// can: is the cell that a thing wishes for open, and nothing on it? Who has moved is there itself.
func (c *crowd) can(i int) bool {
	if !c.wants(i) || !c.open[c.wish[i]] {
		return false
	}
	_, taken := c.on[c.wish[i]]
	return !taken
}

// wants: is a thing on a cell, and wishes for one?
func (c *crowd) wants(i int) bool {
	return c.where[i] != api.Nowhere && c.wish[i] != api.Nowhere
}

// move puts a thing on the cell that it wishes for, and leaves its old one to the others.
func (c *crowd) move(i int) {
	delete(c.on, c.where[i])
	c.on[c.wish[i]] = i
	c.where[i] = c.wish[i]
	c.moved[i] = true
}

// held: does a thing wish for a cell on which it is not? Who has moved is on it.
func (c *crowd) held(i int) bool {
	return c.wants(i) && c.where[i] != c.wish[i]
}

// holder is the thing on the cell that one wishes for, which is never free if it is open: it would have moved.
func (c *crowd) holder(i int) int {
	if !c.open[c.wish[i]] {
		return -1
	}
	return c.on[c.wish[i]]
}

// things are those that are on cells, by cells.
func things(where []int) map[int]int {
	on := map[int]int{}
	for i, cell := range where {
		if cell != api.Nowhere {
			on[cell] = i
		}
	}
	return on
}

// present is how many things are on cells.
func present(where []int) int {
	n := 0
	for _, cell := range where {
		if cell != api.Nowhere {
			n++
		}
	}
	return n
}
