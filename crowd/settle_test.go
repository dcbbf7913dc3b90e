package crowd_test

import (
	"math/rand"
	"slices"
	"testing"

	"bivouac/api"
)

func TestSettle(t *testing.T) { // P15.2
	for _, c := range []struct {
		s    scene
		want []int
	}{
		{on(1, nil, nil), nil},
		{on(2, []int{0}, []int{1}), []int{1}},
		{on(2, []int{1}, []int{0}), []int{0}},
		{on(4096, []int{4095, 0}, []int{1, 4094}), []int{1, 4094}},
		{on(5, []int{0, 2}, []int{1, 1}), []int{1, 2}}, // the first one in order, wherever it is
		{on(5, []int{2, 0}, []int{1, 1}), []int{1, 0}},
		{on(9, []int{8, 7, 6, 5}, []int{0, 0, 0, 0}), []int{0, 7, 6, 5}},
		{on(9, []int{nowhere, 7, 6, 5}, []int{0, 0, 0, 0}), []int{nowhere, 0, 6, 5}},
		{on(9, []int{1, 2, 3, 4}, []int{5, 6, 5, 6}), []int{5, 6, 3, 4}},
		{on(3, []int{0, 1}, []int{0, 1}), []int{0, 1}}, // their own cells
		{on(3, []int{0, 1}, []int{0, 0}), []int{0, 1}},
		{on(3, []int{0, 1}, []int{1, 1}), []int{0, 1}},
		{on(3, []int{0, 1}, []int{nowhere, nowhere}), []int{0, 1}},
		{on(3, []int{0, 1}, []int{nowhere, 2}), []int{0, 2}},
		{on(3, []int{nowhere, nowhere}, []int{0, 1}), []int{nowhere, nowhere}},
		{on(3, []int{nowhere, 0}, []int{1, 1}), []int{nowhere, 1}},
		{on(3, []int{nowhere, nowhere}, []int{nowhere, nowhere}), []int{nowhere, nowhere}},
		{scene{3, row(3, 1), []int{0, 2}, []int{1, 1}}, []int{0, 2}},
		{scene{3, row(3, 1), []int{1, 0}, []int{2, 1}}, []int{2, 0}}, // a closed cell that is left
		{scene{3, row(3, 1), []int{0, 1}, []int{1, 2}}, []int{0, 2}},
		{scene{3, row(3, 1), []int{1}, []int{1}}, []int{1}},
		{scene{3, row(3, 0, 1), []int{0, 1}, []int{2, 0}}, []int{2, 1}},
		{scene{2, make([]bool, 2), []int{0}, []int{1}}, []int{0}},
	} {
		settles(t, c.s, c.want...)
	}
}

func TestCellsThatAreLeft(t *testing.T) { // P15.2
	for _, c := range []struct {
		s    scene
		want []int
	}{
		{on(4, []int{1, 0}, []int{2, 1}), []int{2, 1}}, // left by an earlier one
		{on(4, []int{0, 1}, []int{1, 2}), []int{1, 2}}, // left by a later one
		// 1 leaves its cell: 2 comes to it in the same round, 0 would have to wait for the next one
		{on(5, []int{0, 1, 2}, []int{1, 4, 1}), []int{0, 4, 1}},
		{on(5, []int{0, 3, 1, 2}, []int{1, 1, 4, 1}), []int{0, 3, 4, 1}},
		{on(5, []int{1, 0, 2}, []int{4, 1, 1}), []int{4, 1, 2}},          // of two later ones the first
		{on(5, []int{0, 2, 1}, []int{1, 1, 4}), []int{1, 2, 4}},          // of two earlier ones the first
		{on(6, []int{0, 1, 2, 3}, []int{1, 2, 5, 2}), []int{0, 1, 5, 2}}, // 3 comes in ahead of 1, and 0 waits for 1
		{on(6, []int{3, 0, 1, 2}, []int{2, 1, 2, 5}), []int{2, 0, 1, 5}},
		{on(6, []int{0, 1, 2, 3}, []int{1, 2, 3, 4}), []int{1, 2, 3, 4}},
		{on(6, []int{3, 2, 1, 0}, []int{4, 3, 2, 1}), []int{4, 3, 2, 1}},
		{on(6, []int{1, 3, 0, 2}, []int{2, 4, 1, 3}), []int{2, 4, 1, 3}},
		{on(6, []int{0, 1, 2}, []int{1, 2, nowhere}), []int{0, 1, 2}}, // one that stays holds all behind it
		{scene{6, row(6, 3), []int{0, 1, 2}, []int{1, 2, 3}}, []int{0, 1, 2}},
	} {
		settles(t, c.s, c.want...)
	}
}

// Of a chain all move, whichever of them are first: in one round if each is behind the one that it waits for, in as many as there are things if each is ahead of it.
func TestChains(t *testing.T) { // P15.2
	r := rand.New(rand.NewSource(2))
	for _, n := range []int{1, 2, 3, 5, 31, 32, 33, 62, 63, 64} {
		for _, cells := range []int{n + 1, n + 9, 4096} {
			for _, path := range [][]int{upTo(n + 1), back(n + 1), r.Perm(cells)} {
				for _, order := range [][]int{upTo(n), back(n), r.Perm(n), r.Perm(n)} {
					s := chain(cells, path, order)
					settles(t, s, s.wish...)
				}
			}
		}
	}
}

// The first of a chain has nowhere to go, or its way is closed: nobody moves. A chain behind a free cell, for which somebody else comes earlier, stays too.
func TestChainsThatStay(t *testing.T) { // P15.2
	r := rand.New(rand.NewSource(3))
	for _, n := range []int{2, 3, 33, 63} {
		for _, order := range [][]int{upTo(n), back(n), r.Perm(n)} {
			first := order[n-1]
			s := chain(n+2, upTo(n+1), order)
			s.wish[first] = nowhere
			settles(t, s, s.where...)
			s.wish[first] = s.where[first]
			settles(t, s, s.where...)
			s.wish[first] = n
			s.open[n] = false
			settles(t, s, s.where...)

			s = chain(n+2, upTo(n+1), order)
			s.where, s.wish = slices.Insert(s.where, 0, n+1), slices.Insert(s.wish, 0, n)
			settles(t, s, slices.Concat([]int{n}, s.where[1:])...)
		}
	}
}

func TestRings(t *testing.T) { // P15.2
	r := rand.New(rand.NewSource(4))
	for n := 2; n <= 64; n++ {
		for _, order := range [][]int{upTo(n), back(n), r.Perm(n)} {
			path := r.Perm(n + 1)
			s := chain(n+1, append(path[:n:n], path[0]), order)
			settles(t, s, s.where...)
			if n < 64 { // beside it one goes, and one waits for the ring
				s.cells, s.open = n+3, row(n+3)
				s.where, s.wish = append(s.where, n+1), append(s.wish, n+2)
				settles(t, s, slices.Concat(s.where[:n], []int{n + 2})...)
				s.wish[n] = path[0]
				settles(t, s, s.where...)
			}
		}
	}
}

// Chains that end in one cell: of one all move, and of the others those wait that are ahead of it.
func TestChainsThatMeet(t *testing.T) { // P15.2
	settles(t, on(9, []int{0, 1, 4, 5}, []int{1, 2, 5, 2}), 1, 2, 4, 5)
	settles(t, on(9, []int{5, 4, 1, 0}, []int{2, 5, 2, 1}), 2, 5, 1, 0)
	settles(t, on(9, []int{0, 5, 1, 4}, []int{1, 2, 2, 5}), 0, 2, 1, 5)
	settles(t, on(9, []int{0, 1, 4, 5, 2}, []int{1, 2, 5, 2, 3}), 1, 2, 4, 5, 3) // the cell is left at last
	settles(t, on(9, []int{5, 2, 1, 0}, []int{2, 3, 2, 1}), 5, 3, 2, 1)          // and by one in between
}

func TestSettleOfWrongArguments(t *testing.T) { // P15.2 with R2
	refuses(t, scene{0, nil, nil, nil}, api.ErrArg)
	refuses(t, scene{3, row(2), []int{0}, []int{1}}, api.ErrArg)
	refuses(t, on(4097, []int{0}, []int{1}), api.ErrArg)
	refuses(t, on(3, []int{0}, []int{1, 2}), api.ErrArg)
	refuses(t, on(100, upTo(65), times(65, 99)), api.ErrArg)
	refuses(t, on(3, []int{0, 3}, []int{1, 2}), api.ErrRange)
	refuses(t, on(3, []int{0, 2}, []int{1, -2}), api.ErrRange)
	refuses(t, on(3, []int{0, 0}, []int{1, 2}), api.ErrFull)
}

func TestSettleAsByTheWords(t *testing.T) { // P15.2
	all(3, 2, settlesAsItShall(t))
	all(2, 3, settlesAsItShall(t))
	r := rand.New(rand.NewSource(5))
	for range 20000 {
		settlesAsItShall(t)(drawn(r, 2+r.Intn(4), 2+r.Intn(4)))
	}
	for _, s := range crowds(6, 2000) {
		settlesAsItShall(t)(s)
	}
}

// settlesAsItShall holds Settle of a scene, if it is valid, against the chapter's words.
func settlesAsItShall(t *testing.T) func(scene) {
	return func(s scene) {
		t.Helper()
		if s.fault() != api.OK {
			refuses(t, s, s.fault())
			return
		}
		want := s.end()
		where, moved := settle(t, s)
		if !slices.Equal(where, want.where) || !slices.Equal(moved, want.moved) {
			t.Fatalf("Settle of %v: %v, %v, want %v, %v", s, where, moved, want.where, want.moved)
		}
	}
}
