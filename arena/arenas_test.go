package arena_test

import (
	"math"
	"math/rand"
	"testing"

	"bivouac/api"
	"bivouac/arena"
)

const (
	places = 64      // api.MaxUnits, as the chapter says it
	most   = 1048576 // api.MaxTimes
)

// samples are the first, some middle and the last place.
func samples() []int { return []int{0, 1, 31, 62, 63} }

// given is an arena of which all places were taken so many times, and are Live or not.
func given(times int, live bool) api.Arena {
	var a api.Arena
	for p := range places {
		a.Times[p], a.Live[p] = times, live
	}
	return a
}

// with is an arena of which one place is otherwise.
func with(a api.Arena, p, times int, live bool) api.Arena {
	a.Times[p], a.Live[p] = times, live
	return a
}

// mixed is an arena with gaps, whose places were taken differently often.
func mixed() api.Arena {
	var a api.Arena
	for p := range places {
		a.Times[p] = []int{0, 1, 2, 3, most - 1, most, most, 700 + p}[p%8]
		a.Live[p] = a.Times[p] > 0 && p%3 > 0
	}
	return a
}

// drawn is any valid arena; few of its places are Live, or most, or none or all.
func drawn(r *rand.Rand) api.Arena {
	var a api.Arena
	often := r.Intn(5)
	for p := range places {
		a.Times[p] = []int{0, 1, 2, 1 + r.Intn(9), r.Intn(most + 1), most - 1, most}[r.Intn(7)]
		a.Live[p] = a.Times[p] > 0 && r.Intn(4) < often
	}
	return a
}

// arenas are valid ones.
func arenas() []api.Arena {
	list := []api.Arena{{}, mixed()}
	for _, times := range []int{1, 2, 1000, most - 1, most} {
		list = append(list, given(times, false), given(times, true))
	}
	for _, base := range []api.Arena{{}, given(3, false), given(3, true), given(most, false), given(most, true), mixed()} {
		for _, p := range samples() {
			for _, times := range []int{0, 1, most - 1, most} {
				list = append(list, with(base, p, times, false))
				if times > 0 {
					list = append(list, with(base, p, times, true))
				}
			}
		}
	}
	r := rand.New(rand.NewSource(11))
	for range 300 {
		list = append(list, drawn(r))
	}
	return list
}

// wrongTimes are beside 0 to MaxTimes, some of which would be within if they were cut to fewer bits.
func wrongTimes() []int {
	return []int{
		-1, -2, -64, -most, -most - 1, most + 1, most + 2, 2 * most, math.MinInt64, math.MinInt64 + 1, math.MaxInt64, math.MaxInt64 - 1,
		1 << 31, 1 << 32, 1<<32 + 1, -1 << 32, 1 - 1<<32, 1<<62 + 1,
	}
}

// wrongArenas are not valid, each because of one place or of all of them.
func wrongArenas() []api.Arena {
	list := []api.Arena{given(0, true), given(-1, false), given(-1, true), given(most+1, false), given(most+1, true)}
	for _, base := range []api.Arena{{}, given(1, false), given(1, true), given(most, false), given(most, true), mixed()} {
		for _, p := range samples() {
			list = append(list, with(base, p, 0, true))
			for _, times := range wrongTimes() {
				list = append(list, with(base, p, times, false), with(base, p, times, true))
			}
		}
	}
	return list
}

// nth is the number of a place that is taken for the t-th time.
func nth(p, t int) int { return 64*(t-1) + p }

// numbers are the last one of each place of a valid arena, those about it, and such as no arena has.
func numbers(a api.Arena) []int {
	list := []int{math.MinInt, math.MinInt + 1, math.MinInt + 63, math.MaxInt, math.MaxInt - 1, math.MaxInt - 63, nth(0, most), nth(63, most), nth(0, most+1), nth(63, most+1), nth(0, most+2)}
	for p := range places {
		for _, t := range []int{-1, 0, 1, 2, a.Times[p] / 2, a.Times[p] - 1, a.Times[p], a.Times[p] + 1, a.Times[p] + 2} {
			list = append(list, nth(p, t))
		}
		last := nth(p, a.Times[p])
		list = append(list, last+1<<31, last+1<<32, last-1<<32, last+math.MinInt, -last, ^last)
	}
	return list
}

// fate is what a number is in a valid arena: ErrNone, ErrStale, or OK if there is somebody of it.
func fate(a api.Arena, id int) api.Errno {
	if id < 0 {
		return api.ErrNone
	}
	place, turn := id%64, id/64+1
	switch {
	case turn > a.Times[place]:
		return api.ErrNone
	case turn < a.Times[place] || !a.Live[place]:
		return api.ErrStale
	}
	return api.OK
}

// takes takes a place of an arena that has one.
func takes(t *testing.T, a api.Arena) (api.Arena, int) {
	t.Helper()
	x, id, e := arena.Take(a)
	if e != api.OK {
		t.Fatalf("Take of %v: %d", a, e)
	}
	return x, id
}

// frees lets a number be free that is there.
func frees(t *testing.T, a api.Arena, id int) api.Arena {
	t.Helper()
	x, e := arena.Free(a, id)
	if e != api.OK {
		t.Fatalf("Free of %v, %d: %d", a, id, e)
	}
	return x
}
