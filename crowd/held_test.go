package crowd_test

import (
	"math/rand"
	"slices"
	"testing"

	"bivouac/api"
)

func TestHeld(t *testing.T) { // P15.3
	for _, c := range []struct {
		s    scene
		want []int
	}{
		{on(1, nil, nil), nil},
		{on(4, []int{0, 1}, []int{1, nowhere}), []int{1}}, // by one that stayed
		{on(4, []int{0, 1}, []int{1, 1}), []int{1}},
		{on(4, []int{1, 0}, []int{nowhere, 1}), []int{0}},
		{on(4, []int{0, 2}, []int{1, 1}), []int{0}}, // by one that moved there
		{on(4, []int{2, 0}, []int{1, 1}), []int{0}},
		{on(4, []int{0, 2, 3}, []int{1, 1, 1}), []int{0, 0}},
		{on(5, []int{0, 1, 2}, []int{1, 4, 1}), []int{2}},          // not by the one that was there at first
		{on(4, []int{0, 1, 2}, []int{1, 2, nowhere}), []int{1, 2}}, // by one that is held itself
		{on(4, []int{2, 1, 0}, []int{nowhere, 2, 1}), []int{0, 1}},
		{on(4, []int{0, 1}, []int{1, 0}), []int{1, 0}}, // by one another
		{on(4, []int{0, 1, 2}, []int{1, 2, 0}), []int{1, 2, 0}},
		{on(4, []int{0, 1, 2}, []int{2, 0, 1}), []int{2, 0, 1}},
		{scene{4, row(4, 3), []int{0, 1}, []int{3, 3}}, []int{-1, -1}}, // closed cells
		{scene{4, row(4, 3), []int{0, 3}, []int{3, 1}}, []int{-1}},
		{scene{4, row(4, 3), []int{0, 3}, []int{3, nowhere}}, []int{-1}}, // also if somebody is there
		{scene{4, row(4, 3), []int{3, 0}, []int{3, 3}}, []int{-1}},
		{scene{4, row(4, 3, 2), []int{3, 2}, []int{2, 3}}, []int{-1, -1}},
		{scene{4, row(4, 3), []int{0, 1}, []int{3, 0}}, []int{-1, 0}},
		{scene{4, row(4, 3), []int{1, 0}, []int{0, 3}}, []int{1, -1}},
		{scene{4, row(4, 3), []int{3}, []int{3}}, nil}, // its own cell, if closed
		{scene{4, row(4, 3), []int{3}, []int{0}}, nil},
		{on(4, []int{0}, []int{1}), nil}, // has moved
		{on(4, []int{0, 1, 2}, []int{1, 2, 3}), nil},
		{on(4, []int{0}, []int{0}), nil},
		{on(4, []int{0}, []int{nowhere}), nil},
		{on(4, []int{nowhere}, []int{0}), nil},
		{on(4, []int{nowhere, 2}, []int{2, 2}), nil},
		{scene{4, row(4, 3), []int{nowhere}, []int{3}}, nil},
		{on(4, []int{nowhere}, []int{nowhere}), nil},
		{on(9, []int{nowhere, 7, 6, nowhere, 5, 4}, []int{7, 7, 7, 6, 6, 8}), []int{1, 2}}, // numbers are of all things
		{on(9, []int{3, 2, 1, 0}, []int{nowhere, 3, 3, 3}), []int{0, 0, 0}},
		{on(9, []int{1, 2, 3, 0, 5}, []int{0, 0, 0, nowhere, 1}), []int{3, 3, 3, 0}},
	} {
		if holders := held(t, c.s); !slices.Equal(holders, c.want) {
			t.Errorf("Held of %v: %v, want %v", c.s, holders, c.want)
		}
	}
}

// In a ring each is held by the next one, and behind a chain that stays all are; the list is in the order of those that are held.
func TestHeldInRingsAndChains(t *testing.T) { // P15.3
	r := rand.New(rand.NewSource(7))
	for n := 2; n <= 64; n++ {
		for _, order := range [][]int{upTo(n), back(n), r.Perm(n)} {
			path := r.Perm(n)
			next := make([]int, n) // by things: who is ahead of it
			for k, i := range order {
				next[i] = order[(k+1)%n]
			}
			ring := chain(n, append(path[:n:n], path[0]), order)
			if holders := held(t, ring); !slices.Equal(holders, next) {
				t.Fatalf("Held of %v: %v, want %v", ring, holders, next)
			}
			first := order[n-1]
			ring.wish[first] = nowhere
			if holders := held(t, ring); !slices.Equal(holders, slices.Delete(slices.Clone(next), first, first+1)) {
				t.Fatalf("Held of %v: %v", ring, holders)
			}
			moving := chain(n+1, r.Perm(n+1), order)
			if holders := held(t, moving); len(holders) != 0 {
				t.Fatalf("Held of %v: %v", moving, holders)
			}
		}
	}
}

// All wish for the same cell: the first one is there, and holds all others.
func TestHeldByTheFirst(t *testing.T) { // P15.3
	for n := 1; n <= 64; n++ {
		s := on(n+1, upTo(n), times(n, n))
		if holders := held(t, s); !slices.Equal(holders, times(n-1, 0)) {
			t.Errorf("Held of %v: %v", s, holders)
		}
		s = on(n, upTo(n), times(n, n-1))
		if holders := held(t, s); !slices.Equal(holders, times(n-1, n-1)) {
			t.Errorf("Held of %v: %v", s, holders)
		}
		s = scene{n + 1, row(n+1, n), upTo(n), times(n, n)}
		if holders := held(t, s); !slices.Equal(holders, times(n, -1)) {
			t.Errorf("Held of %v: %v", s, holders)
		}
	}
}

func TestHeldOfWrongArguments(t *testing.T) { // P15.3 with R2
	ring := on(3, []int{0, 1, 2}, []int{1, 2, 0}) // in which all are held
	if holders := held(t, ring); len(holders) != 3 {
		t.Fatalf("Held of %v: %v", ring, holders)
	}
	refuses(t, scene{4, ring.open, ring.where, ring.wish}, api.ErrArg)
	refuses(t, scene{-1, ring.open, ring.where, ring.wish}, api.ErrArg)
	refuses(t, scene{3, row(4), ring.where, ring.wish}, api.ErrArg)
	refuses(t, scene{3, ring.open, ring.where[:2], ring.wish}, api.ErrArg)
	refuses(t, scene{3, ring.open, ring.where, ring.wish[:2]}, api.ErrArg)
	refuses(t, on(65, upTo(65), times(65, 0)), api.ErrArg)
	refuses(t, scene{3, ring.open, ring.where, []int{1, 2, 3}}, api.ErrRange)
	refuses(t, scene{3, ring.open, []int{0, 1, -2}, ring.wish}, api.ErrRange)
	refuses(t, scene{3, ring.open, []int{0, 1, 1}, ring.wish}, api.ErrFull)
}

func TestHeldAsByTheWords(t *testing.T) { // P15.3
	all(3, 2, heldAsItShall(t))
	all(2, 3, heldAsItShall(t))
	r := rand.New(rand.NewSource(8))
	for range 20000 {
		heldAsItShall(t)(drawn(r, 2+r.Intn(4), 2+r.Intn(4)))
	}
	for _, s := range crowds(9, 2000) {
		heldAsItShall(t)(s)
	}
}

// heldAsItShall holds Held of a scene, if it is valid, against the chapter's words and Settle.
func heldAsItShall(t *testing.T) func(scene) {
	return func(s scene) {
		t.Helper()
		if s.fault() != api.OK {
			refuses(t, s, s.fault())
			return
		}
		want := s.end()
		holders := held(t, s)
		if !slices.Equal(holders, want.holders) {
			t.Fatalf("Held of %v: %v, want %v of %v", s, holders, want.holders, want.held)
		}
		where, moved := settle(t, s)
		for k, i := range want.held {
			if moved[i] || s.open[s.wish[i]] != (holders[k] != -1) || holders[k] != -1 && where[holders[k]] != s.wish[i] {
				t.Fatalf("Held of %v: %v of %v, settled: %v, %v", s, holders, want.held, where, moved)
			}
		}
	}
}
