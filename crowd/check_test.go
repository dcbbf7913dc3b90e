package crowd_test

import (
	"math/rand"
	"slices"
	"testing"

	"bivouac/api"
)

// strange are numbers that are no cells, some of which would be if they were cut to fewer bits.
var strange = []int{
	-2, -3, -64, -4096, -4097, least, least + 1, least + 2, greatest, greatest - 1,
	1 << 31, 1 << 32, 1<<32 + 1, 1<<32 - 1, -1 << 31, -1 << 32, -1<<32 - 1, 1<<62 + 1, -1 << 62, 4097, 65536, 65537,
}

// times is a list of the same element.
func times(n, v int) []int {
	list := make([]int, n)
	for i := range list {
		list[i] = v
	}
	return list
}

func TestNumberOfCells(t *testing.T) { // P15.1
	for _, cells := range []int{1, 2, 3, 63, 64, 65, 255, 256, 257, 4095, 4096} {
		for _, open := range [][]bool{row(cells), make([]bool, cells)} {
			for _, s := range []scene{{cells, open, nil, nil}, {cells, open, []int{cells - 1}, []int{0}}} {
				if e := check(s); e != api.OK {
					t.Errorf("Check of %d cells: %d", cells, e)
				}
			}
		}
	}
}

func TestWrongNumberOfCells(t *testing.T) { // P15.1 with R2, R5
	refuses(t, scene{0, nil, nil, nil}, api.ErrArg)
	refuses(t, scene{0, []bool{}, []int{nowhere}, []int{nowhere}}, api.ErrArg)
	refuses(t, on(4097, nil, nil), api.ErrArg)
	refuses(t, on(4097, []int{4096}, []int{0}), api.ErrArg)
	refuses(t, on(65536+1, nil, nil), api.ErrArg)
	for _, cells := range append([]int{0, -1}, strange...) {
		for _, length := range []int{0, 1, 2, 64, 4096} {
			refuses(t, scene{cells, row(length), nil, nil}, api.ErrArg)
			refuses(t, scene{cells, row(length), []int{0}, []int{nowhere}}, api.ErrArg)
		}
	}
}

func TestNumberOfOpenCells(t *testing.T) { // P15.1
	for _, cells := range []int{1, 2, 64, 256, 4095, 4096} {
		for _, length := range []int{0, cells - 1, cells + 1, cells + 256, cells + 65536, 2 * cells} {
			refuses(t, scene{cells, row(length), nil, nil}, api.ErrArg)
			refuses(t, scene{cells, make([]bool, length, length+2*cells), []int{0}, []int{0}}, api.ErrArg)
		}
		refuses(t, scene{cells, nil, nil, nil}, api.ErrArg)
		refuses(t, scene{cells, []bool{}, nil, nil}, api.ErrArg)
		refuses(t, scene{cells, row(2 * cells)[:cells-1], nil, nil}, api.ErrArg)
	}
}

func TestNumberOfThings(t *testing.T) { // P15.1
	for _, cells := range []int{1, 64, 100, 4096} {
		for _, n := range []int{0, 1, 2, 63, 64} {
			if e := check(on(cells, times(n, nowhere), times(n, 0))); e != api.OK {
				t.Errorf("Check of %d things: %d", n, e)
			}
			if e := check(on(cells, upTo(min(n, cells)), times(min(n, cells), nowhere))); e != api.OK {
				t.Errorf("Check of %d things on cells: %d", n, e)
			}
		}
		for _, n := range []int{65, 66, 128, 256, 256 + 64, 65536, 65536 + 1} {
			refuses(t, on(cells, times(n, nowhere), times(n, nowhere)), api.ErrArg)
			refuses(t, on(cells, upTo(n), times(n, nowhere)), api.ErrArg)
		}
	}
	refuses(t, on(4096, upTo(65), upTo(65)), api.ErrArg)
}

func TestNumberOfWishes(t *testing.T) { // P15.1
	for _, n := range []int{0, 1, 2, 32, 63, 64} {
		for _, m := range []int{0, n - 1, n + 1, n + 256, n + 65536, 64, 65} {
			if m >= 0 && m != n {
				refuses(t, on(100, upTo(n), times(m, 0)), api.ErrArg)
				refuses(t, on(100, times(n, nowhere), times(m, nowhere)), api.ErrArg)
			}
		}
	}
	refuses(t, on(4, []int{0}, nil), api.ErrArg)
	refuses(t, on(4, nil, []int{0}), api.ErrArg)
	refuses(t, on(4, []int{0, 1}, make([]int, 1, 9)), api.ErrArg)
}

func TestNoThings(t *testing.T) { // P15.1
	for _, list := range [][]int{nil, {}} {
		for _, other := range [][]int{nil, {}} {
			if e := check(on(1, list, other)); e != api.OK {
				t.Errorf("Check of no things: %d", e)
			}
		}
	}
}

// with is a list in which one element is otherwise.
func with(list []int, i, v int) []int {
	list = slices.Clone(list)
	list[i] = v
	return list
}

func TestElementsThatMayBe(t *testing.T) { // P15.1
	for _, cells := range []int{8, 64, 4096} {
		for _, i := range []int{0, 1, 3, 5, 6} {
			for _, v := range []int{nowhere, 0, cells - 1} {
				s := on(cells, times(7, nowhere), []int{1, 2, 3, 4, 5, 6, 7})
				for _, s := range []scene{on(cells, with(s.where, i, v), s.wish), on(cells, s.where, with(s.wish, i, v)), on(cells, s.wish, with(s.wish, i, v))} {
					if e := check(s); e != api.OK {
						t.Errorf("Check of %v, %v on %d cells: %d", s.where, s.wish, cells, e)
					}
				}
			}
		}
	}
}

func TestElementsThatMayNotBe(t *testing.T) { // P15.1 with R5
	for _, cells := range []int{8, 64, 4096} {
		list := []int{1, 2, 3, 4, 5, 6, 7}
		for _, v := range append([]int{cells, cells + 1, 2 * cells}, strange...) {
			for _, i := range []int{0, 1, 3, 5, 6} {
				for _, other := range [][]int{list, times(7, nowhere)} {
					refuses(t, on(cells, with(list, i, v), other), api.ErrRange)
					refuses(t, on(cells, other, with(list, i, v)), api.ErrRange)
				}
				refuses(t, on(cells, with(list, i, v), with(list, i, v)), api.ErrRange)
			}
			refuses(t, on(cells, []int{v}, []int{0}), api.ErrRange)
			refuses(t, on(cells, []int{0}, []int{v}), api.ErrRange)
			refuses(t, on(cells, with(times(64, nowhere), 63, v), times(64, nowhere)), api.ErrRange)
			refuses(t, on(cells, times(64, nowhere), with(times(64, nowhere), 63, v)), api.ErrRange)
		}
	}
	refuses(t, on(1, []int{1}, []int{nowhere}), api.ErrRange)
	refuses(t, on(1, []int{nowhere}, []int{1}), api.ErrRange)
}

func TestTwoOnACell(t *testing.T) { // P15.1
	list := upTo(64)
	wish := times(64, nowhere)
	for i := range list {
		for _, j := range []int{0, 1, 31, 62, 63, (i + 1) % 64} {
			if i != j {
				refuses(t, on(64, with(list, i, j), wish), api.ErrFull)
				refuses(t, on(4096, with(with(list, i, 4095), j, 4095), wish), api.ErrFull)
				refuses(t, on(4096, with(with(wish, i, 5), j, 5), list), api.ErrFull) // all others are Nowhere
			}
		}
	}
	for _, where := range [][]int{{0, 0}, {3, 3}, {0, 0, 0}, {0, 0, 1, 1}, {0, 1, 0, 1}, {0, 1, 1, 0}, {2, nowhere, 2}, {nowhere, 2, nowhere, 2, nowhere}, {0, 1, 2, 3, 0}, {3, 2, 1, 0, 3}} {
		for _, open := range [][]bool{row(4), make([]bool, 4)} { // also on cells that are not open
			refuses(t, scene{4, open, where, times(len(where), nowhere)}, api.ErrFull)
			refuses(t, scene{4, open, where, times(len(where)-1, nowhere)}, api.ErrArg)
		}
	}
	refuses(t, on(4, times(64, 2), times(64, 1)), api.ErrFull)
}

func TestWhatMayBeSeveral(t *testing.T) { // P15.1
	for _, s := range []scene{
		on(4, []int{nowhere, nowhere}, []int{0, 0}),
		on(4, times(64, nowhere), times(64, 3)),
		on(4, times(64, nowhere), times(64, nowhere)),
		on(4, []int{nowhere, 2, nowhere, 1, nowhere}, []int{2, 2, 2, 2, 2}),
		on(4, []int{0, 1, 2, 3}, []int{0, 0, 0, 0}),
		on(4, []int{0, 1, 2, 3}, []int{1, 0, 3, 2}),
		{4, make([]bool, 4), []int{3, 1, 0, 2}, []int{0, 1, 2, 3}}, // on cells that are not open
		{4, row(4, 2), []int{2}, []int{nowhere}},
	} {
		if e := check(s); e != api.OK {
			t.Errorf("Check of %v: %d", s, e)
		}
	}
}

func TestOrderOfErrors(t *testing.T) { // P15.1 with R2
	for _, c := range []struct {
		s scene
		e api.Errno
	}{
		{scene{0, nil, []int{5, 5}, []int{-2, 0}}, api.ErrArg},
		{scene{3, row(2), []int{1, 1}, []int{9, 9}}, api.ErrArg},
		{scene{3, row(2), []int{1, 1}, []int{0, 0}}, api.ErrArg},
		{scene{3, row(4), []int{-2}, []int{0}}, api.ErrArg},
		{scene{4097, row(4097), []int{4097}, []int{0}}, api.ErrArg},
		{on(3, times(65, 3), times(65, 0)), api.ErrArg},
		{on(3, times(65, 1), times(65, 0)), api.ErrArg},
		{on(3, times(65, 1), times(64, 0)), api.ErrArg},
		{on(3, times(64, 1), times(65, 0)), api.ErrArg},
		{on(3, []int{1, 1}, []int{0}), api.ErrArg},
		{on(3, []int{1, 1}, []int{0, 0, 3}), api.ErrArg},
		{on(3, []int{3}, []int{0, 0}), api.ErrArg},
		{on(3, []int{}, []int{-2}), api.ErrArg},
		{on(3, []int{1, 1, 3}, []int{0, 0, 0}), api.ErrRange},
		{on(3, []int{1, 1, 2}, []int{0, 0, -2}), api.ErrRange},
		{on(3, []int{1, 1, 2}, []int{0, 0, 3}), api.ErrRange},
		{on(3, []int{3, 1, 1}, []int{0, 0, 0}), api.ErrRange},
		{on(3, []int{3, 3}, []int{0, 0}), api.ErrRange},
		{on(3, []int{-2, -2}, []int{0, 0}), api.ErrRange},
		{on(3, []int{1, 1, 2}, []int{0, 0, 0}), api.ErrFull},
	} {
		refuses(t, c.s, c.e)
	}
}

// strangeScene is a scene in which anything may be wrong.
func strangeScene(r *rand.Rand) scene {
	s := drawn(r, 1+r.Intn(9), r.Intn(9))
	for range r.Intn(4) {
		v := append([]int{nowhere, 0, s.cells - 1, s.cells}, strange...)[r.Intn(4+len(strange))]
		i := r.Intn(len(s.where) + 1)
		switch r.Intn(10) {
		case 0:
			s.cells = v
		case 1:
			s.open = row(r.Intn(12))
		case 2:
			s.where = append(s.where, v)
		case 3:
			s.wish = append(s.wish, v)
		case 4:
			s.where, s.wish = times(64+r.Intn(2), v), times(64+r.Intn(2), nowhere)
		case 5:
			if i < len(s.where) {
				s.where[i] = v
			}
		case 6, 7:
			if i < len(s.where) {
				s.where[i] = s.where[len(s.where)-1]
			}
		default:
			if i < len(s.wish) {
				s.wish[i] = v
			}
		}
	}
	return s
}

func TestCheckAsByTheWords(t *testing.T) { // P15.1
	all(3, 2, func(s scene) {
		if e := check(s); e != s.fault() {
			t.Fatalf("Check of %v: %d, want %d", s, e, s.fault())
		}
	})
	all(2, 3, func(s scene) {
		if e := check(s); e != s.fault() {
			t.Fatalf("Check of %v: %d, want %d", s, e, s.fault())
		}
	})
	for _, s := range crowds(1, 1000) {
		if e := check(s); e != api.OK {
			t.Fatalf("Check of %v: %d", s, e)
		}
		if n := len(s.where); n > 1 && s.where[n/2] != nowhere {
			refuses(t, scene{s.cells, s.open, with(s.where, n/2-1, s.where[n/2]), s.wish}, api.ErrFull)
		}
	}
}
