package crowd_test

import (
	"math"
	"math/rand"
	"slices"
	"testing"

	"bivouac/api"
	"bivouac/crowd"
)

const (
	most     = 4096 // cells, as the chapter says it
	many     = 64   // things
	nowhere  = -1
	least    = math.MinInt
	greatest = math.MaxInt
)

// scene is what the functions are asked for.
type scene struct {
	cells       int
	open        []bool
	where, wish []int
}

// row are open cells, but for some.
func row(cells int, closed ...int) []bool {
	open := make([]bool, cells)
	for i := range open {
		open[i] = !slices.Contains(closed, i)
	}
	return open
}

// on is a scene on open cells.
func on(cells int, where, wish []int) scene {
	return scene{cells, row(cells), where, wish}
}

func (s scene) clone() scene {
	return scene{s.cells, slices.Clone(s.open), slices.Clone(s.where), slices.Clone(s.wish)}
}

func (s scene) is(o scene) bool {
	return s.cells == o.cells && slices.Equal(s.open, o.open) && slices.Equal(s.where, o.where) && slices.Equal(s.wish, o.wish)
}

// fault is the error of a scene, by the chapter's words.
func (s scene) fault() api.Errno {
	if s.cells < 1 || s.cells > most || len(s.open) != s.cells || len(s.where) > many || len(s.wish) != len(s.where) {
		return api.ErrArg
	}
	for i := range s.where {
		for _, c := range []int{s.where[i], s.wish[i]} {
			if c < -1 || c >= s.cells {
				return api.ErrRange
			}
		}
	}
	for i := range s.where {
		for j := range i {
			if s.where[i] == s.where[j] && s.where[i] != nowhere {
				return api.ErrFull
			}
		}
	}
	return api.OK
}

// end is where things are when they have settled, who has moved, who is held, and by whom.
type end struct {
	where         []int
	moved         []bool
	held, holders []int
}

// end is the one of a valid scene, by the chapter's words.
func (s scene) end() end {
	r := end{where: slices.Clone(s.where), moved: make([]bool, len(s.where))}
	for moves := true; moves; {
		moves = false
		for i, cell := range s.wish {
			if r.where[i] != nowhere && !r.moved[i] && cell != nowhere && s.open[cell] && !slices.Contains(r.where, cell) {
				r.where[i], r.moved[i], moves = cell, true, true
			}
		}
	}
	for i, cell := range s.wish {
		if r.where[i] == nowhere || cell == nowhere || cell == s.where[i] || r.moved[i] {
			continue
		}
		holder := -1
		if s.open[cell] {
			holder = slices.Index(r.where, cell)
		}
		r.held, r.holders = append(r.held, i), append(r.holders, holder)
	}
	return r
}

func check(s scene) api.Errno {
	return crowd.Check(s.cells, s.open, s.where, s.wish)
}

// settle is Settle of a valid scene.
func settle(t *testing.T, s scene) ([]int, []bool) {
	t.Helper()
	where, moved, e := crowd.Settle(s.cells, s.open, s.where, s.wish)
	if e != api.OK {
		t.Fatalf("Settle of %v: %d", s, e)
	}
	return where, moved
}

// held is Held of a valid scene.
func held(t *testing.T, s scene) []int {
	t.Helper()
	holders, e := crowd.Held(s.cells, s.open, s.where, s.wish)
	if e != api.OK {
		t.Fatalf("Held of %v: %d", s, e)
	}
	return holders
}

// settles: things go to where they shall, and who moves is who is then elsewhere.
func settles(t *testing.T, s scene, want ...int) {
	t.Helper()
	where, moved := settle(t, s)
	if !slices.Equal(where, want) || len(moved) != len(want) {
		t.Fatalf("Settle of %v: %v, %v, want %v", s, where, moved, want)
	}
	for i := range moved {
		if moved[i] != (where[i] != s.where[i]) {
			t.Fatalf("Settle of %v: %v, %v at %d", s, where, moved, i)
		}
	}
}

// refuses: all functions answer the error, and nothing beside it.
func refuses(t *testing.T, s scene, want api.Errno) {
	t.Helper()
	if e := check(s); e != want {
		t.Fatalf("Check of %d cells, %d open, %v, %v: %d, want %d", s.cells, len(s.open), s.where, s.wish, e, want)
	}
	if where, moved, e := crowd.Settle(s.cells, s.open, s.where, s.wish); len(where) != 0 || len(moved) != 0 || e != want {
		t.Fatalf("Settle of %d cells, %d open, %v, %v: %v, %v, %d, want %d", s.cells, len(s.open), s.where, s.wish, where, moved, e, want)
	}
	if holders, e := crowd.Held(s.cells, s.open, s.where, s.wish); len(holders) != 0 || e != want {
		t.Fatalf("Held of %d cells, %d open, %v, %v: %v, %d, want %d", s.cells, len(s.open), s.where, s.wish, holders, e, want)
	}
}

// chain is things each of which wishes for the next one's cell, the last one for a free cell; the order tells which thing is the first of them, the second, and so on.
func chain(cells int, path, order []int) scene {
	s := on(cells, make([]int, len(order)), make([]int, len(order)))
	for k, i := range order {
		s.where[i], s.wish[i] = path[k], path[k+1]
	}
	return s
}

// upTo are the numbers below n in order.
func upTo(n int) []int {
	list := make([]int, n)
	for i := range list {
		list[i] = i
	}
	return list
}

// back are the numbers below n in descending order.
func back(n int) []int {
	list := upTo(n)
	slices.Reverse(list)
	return list
}

// drawn is a valid scene: things on different cells, some Nowhere, that wish for each other's cells, for free ones, for any, for their own, or for none.
func drawn(r *rand.Rand, cells, things int) scene {
	s := on(cells, make([]int, things), make([]int, things))
	closed := []float64{0, 0.1, 0.5, 1}[r.Intn(4)]
	for i := range s.open {
		s.open[i] = r.Float64() >= closed
	}
	places := r.Perm(cells)
	absent := []int{0, 10, 60}[r.Intn(3)]
	for i := range s.where {
		if i >= cells || r.Intn(100) < absent {
			s.where[i] = nowhere
		} else {
			s.where[i] = places[i]
		}
	}
	kinds := 1 + r.Intn(5)
	for i := range s.wish {
		s.wish[i] = s.drawnWish(r, i, r.Intn(kinds), places)
	}
	return s
}

func (s scene) drawnWish(r *rand.Rand, i, kind int, places []int) int {
	things := len(s.where)
	switch kind {
	case 0: // the cells of others, and a few that are free
		return places[r.Intn(min(len(places), things+things/8+1))]
	case 1: // a neighbor in a chain
		return places[(i+1)%len(places)]
	case 2:
		return r.Intn(s.cells)
	case 3:
		return places[max(0, i%len(places)-1)]
	}
	return []int{nowhere, s.where[i], places[len(places)-1]}[r.Intn(3)]
}

// crowds are many drawn scenes.
func crowds(seed int64, n int) []scene {
	r := rand.New(rand.NewSource(seed))
	var list []scene
	for k := range n {
		cells, things := 1+r.Intn(9), r.Intn(10)
		switch {
		case k%20 == 0:
			cells, things = most-r.Intn(2), many-r.Intn(2)
		case k%4 == 0:
			cells, things = many+r.Intn(many), many-r.Intn(many)
		case k%4 == 1:
			cells, things = many+r.Intn(8), many
		}
		list = append(list, drawn(r, cells, things))
	}
	return list
}

// all: each scene of so many cells, open or not, and things, valid or not for two on the same cell.
func all(cells, things int, f func(scene)) {
	each := (cells + 1) * (cells + 1) // of where and wish of a thing
	number := 1
	for range things {
		number *= each
	}
	s := on(cells, make([]int, things), make([]int, things))
	for mask := range 1 << cells {
		for c := range s.open {
			s.open[c] = mask>>c&1 == 1
		}
		for n := range number {
			for i := range things {
				s.where[i], s.wish[i] = n%each/(cells+1)-1, n%each%(cells+1)-1
				n /= each
			}
			f(s)
		}
	}
}
