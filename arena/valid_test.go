package arena_test

import (
	"math/rand"
	"testing"

	"bivouac/api"
	"bivouac/arena"
)

func TestMayOfValid(t *testing.T) { // P11.1
	for _, a := range arenas() {
		if !arena.May(a) {
			t.Errorf("May of %v is false", a)
		}
	}
	for p := range places {
		for _, times := range []int{0, 1, 2, most - 1, most} {
			if a := with(api.Arena{}, p, times, times > 0); !arena.May(a) {
				t.Errorf("May is false where place %d was taken %d times", p, times)
			}
		}
	}
}

func TestMayOfWrong(t *testing.T) { // P11.1
	for _, a := range wrongArenas() {
		if arena.May(a) {
			t.Errorf("May of %v is true", a)
		}
	}
	for p := range places {
		if arena.May(with(api.Arena{}, p, 0, true)) {
			t.Errorf("May is true where place %d is Live and was never taken", p)
		}
		for _, times := range wrongTimes() {
			for _, live := range []bool{false, true} {
				if arena.May(with(given(1, true), p, times, live)) {
					t.Errorf("May is true where place %d was taken %d times, Live %t", p, times, live)
				}
			}
		}
	}
}

// refuses: an arena that is not valid has nothing, and nothing is done with it.
func refuses(t *testing.T, a api.Arena, ids []int) {
	t.Helper()
	if x, id, e := arena.Take(a); x != (api.Arena{}) || id != 0 || e != api.ErrArg {
		t.Fatalf("Take of %v: %v, %d, %d", a, x, id, e)
	}
	if l := arena.All(a); len(l) != 0 {
		t.Fatalf("All of %v: %v", a, l)
	}
	if n := arena.Count(a); n != 0 {
		t.Fatalf("Count of %v: %d", a, n)
	}
	for _, id := range ids {
		if x, e := arena.Free(a, id); x != (api.Arena{}) || e != api.ErrArg {
			t.Fatalf("Free of %v, %d: %v, %d", a, id, x, e)
		}
		if arena.Is(a, id) {
			t.Fatalf("Is of %v, %d is true", a, id)
		}
	}
}

// Places that are full, and numbers that were never assigned or are no more, are among them: ErrArg comes first.
func TestWrongArenasAreRefused(t *testing.T) { // P11.1
	for _, a := range wrongArenas() {
		refuses(t, a, numbers(a))
	}
}

// In each place what is wrong is found, whatever the others are.
func TestOneWrongPlace(t *testing.T) { // P11.1
	r := rand.New(rand.NewSource(12))
	for p := range places {
		for range 20 {
			a := drawn(r)
			refuses(t, with(a, p, 0, true), numbers(a))
			times := wrongTimes()[r.Intn(len(wrongTimes()))]
			refuses(t, with(a, p, times, r.Intn(2) == 1), numbers(a))
		}
	}
}
