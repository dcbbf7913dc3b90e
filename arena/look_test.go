package arena_test

import (
	"math"
	"slices"
	"testing"

	"bivouac/api"
	"bivouac/arena"
)

func TestIs(t *testing.T) { // P11.4
	for _, a := range arenas() {
		for _, id := range numbers(a) {
			if want := fate(a, id) == api.OK; arena.Is(a, id) != want {
				t.Errorf("Is of %v, %d: %t", a, id, !want)
			}
		}
	}
}

func TestIsOfEachPlace(t *testing.T) { // P11.4
	for p := range places {
		for _, times := range []int{1, 2, 3, most - 1, most} {
			a := with(mixed(), p, times, true)
			if !arena.Is(a, nth(p, times)) {
				t.Errorf("Is of place %d, taken %d times, is false", p, times)
			}
			if arena.Is(with(a, p, times, false), nth(p, times)) {
				t.Errorf("Is of place %d, which is not Live, is true", p)
			}
			for _, id := range []int{nth(p, times-1), nth(p, times+1), nth(p, 0), -nth(p, times) - 1, math.MinInt + p, math.MaxInt - p} {
				if arena.Is(a, id) {
					t.Errorf("Is of %d is true, where place %d was taken %d times", id, p, times)
				}
			}
		}
		if a := with(given(1, true), p, 0, false); arena.Is(a, p) || arena.Is(a, p-64) {
			t.Errorf("Is of place %d, which was never taken, is true", p)
		}
	}
}

func TestPlace(t *testing.T) { // P11.4
	for id, want := range map[int]int{
		0: 0, 1: 1, 62: 62, 63: 63, 64: 0, 65: 1, 127: 63, 128: 0, 67108863: 63, 67108864: 0,
		math.MaxInt: 63, math.MaxInt - 1: 62, math.MaxInt - 63: 0, math.MaxInt - 64: 63,
		-1: 63, -2: 62, -63: 1, -64: 0, -65: 63, -127: 1, -128: 0,
		math.MinInt: 0, math.MinInt + 1: 1, math.MinInt + 63: 63, math.MinInt + 64: 0,
	} {
		if p := arena.Place(id); p != want {
			t.Errorf("Place of %d: %d, want %d", id, p, want)
		}
	}
	for p := range places {
		for _, turn := range []int{-most, -1000, -1, 0, 1, 2, 1000, most, most + 1, 1 << 40, -1 << 40} {
			if got := arena.Place(nth(p, turn)); got != p {
				t.Errorf("Place of %d: %d, want %d", nth(p, turn), got, p)
			}
		}
	}
}

// living are the numbers that there are, by place.
func living(a api.Arena) []int {
	var l []int
	for p := range places {
		if a.Live[p] {
			l = append(l, nth(p, a.Times[p]))
		}
	}
	return l
}

func TestAllAndCount(t *testing.T) { // P11.4
	for _, a := range arenas() {
		want := living(a)
		if l := arena.All(a); !slices.Equal(l, want) {
			t.Errorf("All of %v: %v, want %v", a, l, want)
		}
		if n := arena.Count(a); n != len(want) {
			t.Errorf("Count of %v: %d, want %d", a, n, len(want))
		}
	}
}

func TestAllOfSome(t *testing.T) { // P11.4
	gaps := with(with(with(api.Arena{}, 2, 9, true), 7, 1, false), 63, 3, true)
	gaps = with(with(gaps, 0, most, false), 40, 1, true)
	for _, c := range []struct {
		a    api.Arena
		want []int
	}{
		{api.Arena{}, nil},
		{given(1, false), nil},
		{given(most, false), nil},
		{gaps, []int{514, 40, 191}},
		{with(api.Arena{}, 0, 1, true), []int{0}},
		{with(api.Arena{}, 63, most, true), []int{67108863}},
	} {
		if l := arena.All(c.a); !slices.Equal(l, c.want) || arena.Count(c.a) != len(c.want) {
			t.Errorf("All of %v: %v, want %v, and Count %d", c.a, l, c.want, arena.Count(c.a))
		}
	}
	full := arena.All(given(2, true))
	for p := range places {
		if len(full) != 64 || full[p] != 64+p {
			t.Fatalf("All of a full arena: %v", full)
		}
	}
	if n := arena.Count(given(2, true)); n != 64 {
		t.Errorf("Count of a full arena: %d", n)
	}
}

// What is done to a result is not seen in another one.
func TestAllIsNew(t *testing.T) { // P11.4, R3
	for _, a := range []api.Arena{given(1, true), mixed()} {
		was, want := a, living(a)
		first := arena.All(a)
		second := arena.All(a)
		for n := range first {
			first[n] = -1
		}
		_ = append(first[:0], make([]int, cap(first))...)
		if !slices.Equal(second, want) || !slices.Equal(arena.All(a), want) || a != was {
			t.Errorf("All of %v shares its memory", was)
		}
	}
}
