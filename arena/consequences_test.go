package arena_test

import (
	"math"
	"math/rand"
	"slices"
	"testing"

	"bivouac/api"
	"bivouac/arena"
)

func TestExamples(t *testing.T) { // the chapter's examples
	a, id := takes(t, api.Arena{})
	if id != 0 {
		t.Errorf("Take of an empty arena: %d", id)
	}
	if a, id = takes(t, a); id != 1 {
		t.Errorf("Take again: %d", id)
	}
	if a, id = takes(t, frees(t, a, 0)); id != 64 {
		t.Errorf("Take after Free(0): %d", id)
	}
	if arena.Is(a, 0) {
		t.Error("Is(0) is true")
	}
	fails(t, a, 0, api.ErrStale)
	fails(t, a, 128, api.ErrNone)
	if l := arena.All(a); !slices.Equal(l, []int{64, 1}) {
		t.Errorf("All: %v", l)
	}
}

// history is what was done to an arena: which numbers were assigned so far, and which of them were not freed.
type history struct {
	a        api.Arena
	assigned map[int]bool
	there    []int
	freed    []int
}

// take asks for a number, and says whether there was one.
func (h *history) take(t *testing.T) bool {
	t.Helper()
	x, id, e := arena.Take(h.a)
	if e == api.ErrFull {
		return false
	}
	if e != api.OK || h.assigned[id] {
		t.Fatalf("Take of %v: %d, %d, assigned before: %t", h.a, id, e, h.assigned[id])
	}
	h.a, h.assigned[id] = x, true
	h.there = append(h.there, id)
	return true
}

// free lets the n-th of those be free that are there.
func (h *history) free(t *testing.T, n int) {
	t.Helper()
	id := h.there[n]
	h.a = frees(t, h.a, id)
	h.there = slices.Delete(h.there, n, n+1)
	h.freed = append(h.freed, id)
}

// holds: there is who was taken and not freed, and nobody else.
func (h *history) holds(t *testing.T) {
	t.Helper()
	l := arena.All(h.a)
	slices.Sort(l)
	want := slices.Sorted(slices.Values(h.there))
	if !slices.Equal(l, want) || arena.Count(h.a) != len(want) || !arena.May(h.a) {
		t.Fatalf("All of %v: %v, Count %d, want %v", h.a, l, arena.Count(h.a), want)
	}
	for _, id := range h.there {
		if !arena.Is(h.a, id) {
			t.Fatalf("Is of %v, %d is false", h.a, id)
		}
	}
}

// never: no number that was freed is valid again.
func (h *history) never(t *testing.T) {
	t.Helper()
	for _, id := range h.freed {
		if arena.Is(h.a, id) {
			t.Fatalf("Is of %v, %d is true, which was freed", h.a, id)
		}
		fails(t, h.a, id, api.ErrStale)
	}
}

// run takes and frees by turns, so that the arena now fills, now empties.
func (h *history) run(t *testing.T, r *rand.Rand, steps int) {
	t.Helper()
	share := r.Intn(101)
	for n := range steps {
		if n%40 == 0 {
			share = r.Intn(101)
		}
		if len(h.there) > 0 && r.Intn(100) < share {
			h.free(t, r.Intn(len(h.there)))
		} else {
			h.take(t)
		}
		h.holds(t)
	}
	h.never(t)
}

func TestSequences(t *testing.T) { // P11.5
	r := rand.New(rand.NewSource(15))
	for range 200 {
		h := history{assigned: map[int]bool{}}
		h.run(t, r, r.Intn(400))
	}
	long := history{assigned: map[int]bool{}}
	long.run(t, r, 20000)
}

// From an arena whose places are nearly used up it goes on until there is no number any more.
func TestSequencesToTheEnd(t *testing.T) { // P11.5
	r := rand.New(rand.NewSource(16))
	for range 50 {
		h := history{assigned: map[int]bool{}}
		left := 0
		for p := range places {
			h.a.Times[p] = most - r.Intn(4)
			left += most - h.a.Times[p]
		}
		for rounds := 0; len(h.assigned) < left; rounds++ {
			if rounds == 1000 {
				t.Fatalf("of %d numbers only %d are assigned: %v", left, len(h.assigned), h.a)
			}
			h.run(t, r, 20)
		}
		for len(h.there) > 0 {
			h.free(t, 0)
			if h.take(t) {
				t.Fatalf("more numbers than %d were assigned", left)
			}
			h.holds(t)
		}
		if h.a != given(most, false) {
			t.Fatalf("an arena at its end: %v", h.a)
		}
		h.never(t)
	}
}

// Whatever an arena is and whatever a number is: each call answers, and twice the same.
func TestNoCallPanics(t *testing.T) { // R1, R4
	r := rand.New(rand.NewSource(17))
	edge := func() int {
		edges := []int{0, 1, 2, 63, 64, -1, -64, most - 1, most, most + 1, math.MinInt, math.MaxInt, int(r.Uint64()), r.Intn(most)}
		return edges[r.Intn(len(edges))]
	}
	for n := range 3000 {
		a := drawn(r)
		for range n % 4 {
			a = with(a, r.Intn(places), edge(), r.Intn(2) == 1)
		}
		if n%10 == 9 {
			for p := range places {
				a = with(a, p, edge(), r.Intn(2) == 1)
			}
		}
		x, id, e := arena.Take(a)
		if y, id2, e2 := arena.Take(a); x != y || id != id2 || e != e2 || (e == api.ErrArg) == arena.May(a) {
			t.Fatalf("Take of %v: %d, %d, and then %d, %d", a, id, e, id2, e2)
		}
		if l := arena.All(a); !slices.Equal(l, arena.All(a)) || len(l) != arena.Count(a) {
			t.Fatalf("All of %v: %v, Count %d", a, l, arena.Count(a))
		}
		for range 20 {
			id := edge()
			x, e := arena.Free(a, id)
			if y, e2 := arena.Free(a, id); x != y || e != e2 || arena.Is(a, id) != (e == api.OK) {
				t.Fatalf("Free of %v, %d: %d, and then %d", a, id, e, e2)
			}
			if p := arena.Place(id); p < 0 || p >= places || (id-p)%64 != 0 {
				t.Fatalf("Place of %d: %d", id, p)
			}
		}
	}
}
