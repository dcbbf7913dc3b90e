package arena_test

import (
	"testing"

	"bivouac/api"
	"bivouac/arena"
)

// isFull: Take answers ErrFull and nothing else.
func isFull(t *testing.T, a api.Arena) {
	t.Helper()
	if x, id, e := arena.Take(a); x != (api.Arena{}) || id != 0 || e != api.ErrFull {
		t.Errorf("Take of %v: %v, %d, %d, want ErrFull", a, x, id, e)
	}
}

func TestTakeUntilFull(t *testing.T) { // P11.2
	var a api.Arena
	for p := range places {
		var id int
		a, id = takes(t, a)
		if id != p {
			t.Errorf("Take for the time %d: %d", p+1, id)
		}
		for q := range places {
			if is := q <= p; a.Live[q] != is || a.Times[q] > 0 != is || a.Times[q] > 1 {
				t.Errorf("after %d times place %d is %t, and was taken %d times", p+1, q, a.Live[q], a.Times[q])
			}
		}
	}
	if a != given(1, true) {
		t.Errorf("a full arena: %v", a)
	}
	isFull(t, a)
}

// What is taken is the least place that may be, once more, and nothing else changes.
func TestTake(t *testing.T) { // P11.2
	for _, a := range arenas() {
		least := -1
		for p := places - 1; p >= 0; p-- {
			if !a.Live[p] && a.Times[p] != most {
				least = p
			}
		}
		if least < 0 {
			isFull(t, a)
			continue
		}
		was := a
		x, id, e := arena.Take(a)
		if a != was {
			t.Fatalf("Take changes its argument %v to %v", was, a)
		}
		if want := with(a, least, a.Times[least]+1, true); x != want || id != nth(least, want.Times[least]) || e != api.OK {
			t.Errorf("Take of %v: %v, %d, %d, want %v", a, x, id, e, want)
		}
	}
}

func TestLeastFreePlace(t *testing.T) { // P11.2
	for p := range places {
		for q := range p {
			a := with(with(given(5, true), p, 7, false), q, 9, false) // two are free
			if _, id := takes(t, a); id != nth(q, 10) {
				t.Errorf("Take of the places %d and %d: %d", q, p, id)
			}
			a = with(a, q, most, false) // the lower one is used up
			if x, id := takes(t, a); id != nth(p, 8) || x != with(a, p, 8, true) {
				t.Errorf("Take of place %d behind place %d, which is used up: %d", p, q, id)
			}
		}
		behind := given(most, false) // all but one are used up
		if x, id := takes(t, with(behind, p, 0, false)); id != p || x != with(behind, p, 1, true) {
			t.Errorf("Take of place %d among those that are used up: %d", p, id)
		}
	}
}

func TestLastTime(t *testing.T) { // P11.2
	for _, base := range []api.Arena{given(most, false), given(most, true), given(1, true), given(most-1, true)} {
		for p := range places {
			a, id := takes(t, with(base, p, most-1, false))
			if id != 67108800+p || a != with(base, p, most, true) {
				t.Errorf("Take of place %d for the last time: %d", p, id)
			}
			isFull(t, a)
			a = frees(t, a, id)
			isFull(t, a) // and it stays used up
			if a != with(base, p, most, false) {
				t.Errorf("place %d is used up: %v", p, a)
			}
		}
	}
}

func TestFull(t *testing.T) { // P11.2
	for _, times := range []int{1, 2, most - 1, most} {
		isFull(t, given(times, true))
		for p := range places {
			isFull(t, with(given(times, true), p, most, false)) // free, but used up
			isFull(t, with(given(most, false), p, times, true))
		}
	}
	isFull(t, given(most, false))
}

func TestAllTimesOfAPlace(t *testing.T) { // P11.2
	a := with(given(1, true), 5, 0, false)
	for turn := range most {
		var id int
		a, id = takes(t, a)
		if id != 64*turn+5 || a.Times[5] != turn+1 {
			t.Fatalf("Take of place 5 for the time %d: %d", turn+1, id)
		}
		a = frees(t, a, id)
	}
	isFull(t, a)
}
