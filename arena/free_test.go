package arena_test

import (
	"math"
	"testing"

	"bivouac/api"
	"bivouac/arena"
)

// fails: Free answers an error and nothing else.
func fails(t *testing.T, a api.Arena, id int, e api.Errno) {
	t.Helper()
	if x, got := arena.Free(a, id); x != (api.Arena{}) || got != e {
		t.Fatalf("Free of %v, %d: %v, %d, want %d", a, id, x, got, e)
	}
}

// Every sort of number in every arena.
func TestFree(t *testing.T) { // P11.3
	for _, a := range arenas() {
		for _, id := range numbers(a) {
			e := fate(a, id)
			if e != api.OK {
				fails(t, a, id, e)
				continue
			}
			was := a
			x, got := arena.Free(a, id)
			if a != was {
				t.Fatalf("Free changes its argument %v to %v", was, a)
			}
			p := id % 64
			if want := with(a, p, a.Times[p], false); x != want || got != api.OK {
				t.Errorf("Free of %v, %d: %v, %d, want %v", a, id, x, got, want)
			}
		}
	}
}

func TestFreeOfEachPlace(t *testing.T) { // P11.3
	for p := range places {
		for _, times := range []int{1, 2, 3, most - 1, most} {
			for _, others := range []api.Arena{given(times, true), given(times, false), {}, mixed()} {
				a := with(others, p, times, true)
				x := frees(t, a, nth(p, times))
				if x != with(others, p, times, false) {
					t.Errorf("Free of place %d, taken %d times: %v", p, times, x)
				}
				fails(t, x, nth(p, times), api.ErrStale) // a second time
			}
		}
	}
}

func TestNeverAssigned(t *testing.T) { // P11.3
	for _, a := range []api.Arena{{}, given(1, true), given(1, false), given(most, true), given(most, false), mixed()} {
		for _, id := range []int{-1, -2, -63, -64, -65, -128, math.MinInt, math.MinInt + 1, math.MinInt + 64, math.MaxInt, math.MaxInt - 63, 67108864, 67108927} {
			fails(t, a, id, api.ErrNone)
		}
		for p := range places {
			fails(t, a, nth(p, a.Times[p]+1), api.ErrNone) // the next number
			fails(t, a, nth(p, a.Times[p]+2), api.ErrNone)
			fails(t, a, nth(p, 0), api.ErrNone)
			fails(t, with(a, p, 0, false), p, api.ErrNone) // a place that was never taken
		}
	}
}

func TestNoMore(t *testing.T) { // P11.3
	for p := range places {
		for _, live := range []bool{false, true} {
			for _, times := range []int{2, 3, 10, most - 1, most} {
				a := with(mixed(), p, times, live)
				for _, turn := range []int{1, 2, times / 2, times - 1} {
					if turn > 0 && turn < times { // an elder number
						fails(t, a, nth(p, turn), api.ErrStale)
					}
				}
			}
		}
		for _, times := range []int{1, 2, most - 1, most} { // the last number
			fails(t, with(mixed(), p, times, false), nth(p, times), api.ErrStale)
			fails(t, given(times, false), nth(p, times), api.ErrStale)
		}
	}
}

// A place that is not Live has numbers that are no more, and its next one, which was never assigned.
func TestNoneOrStale(t *testing.T) { // P11.3
	a := with(given(1, true), 3, 2, false)
	fails(t, a, 3, api.ErrStale)
	fails(t, a, 67, api.ErrStale)
	fails(t, a, 131, api.ErrNone)
	fails(t, a, -61, api.ErrNone)
	a, id := takes(t, a)
	if id != 131 {
		t.Errorf("Take of place 3: %d", id)
	}
	fails(t, a, 67, api.ErrStale)
	fails(t, a, 195, api.ErrNone)
	frees(t, a, 131)
}
