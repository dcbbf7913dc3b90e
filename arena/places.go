package arena

import (
	"bivouac/api"
)

// last is the number that a place was given last; of a place that was never taken it is below 0, which no unit's number is.
func last(a api.Arena, p int) int { return api.MaxUnits*(a.Times[p]-1) + p }

// wasAssigned: was a number ever given, whether it still is or not?
func wasAssigned(a api.Arena, id int) bool { return id >= 0 && id <= last(a, Place(id)) }

// withNext is a valid arena in which the least place that can be taken is, and its number; where none can, the arena as it was.
func withNext(a api.Arena) (api.Arena, int) {
	for p, times := range a.Times {
		if !a.Live[p] && times < api.MaxTimes {
			a.Times[p]++
			a.Live[p] = true
			return a, last(a, p)
		}
	}
	return a, 0
}

// without is a valid arena in which a number is no more; where it is not anyway, the arena as it was.
func without(a api.Arena, id int) api.Arena {
	if p := Place(id); id == last(a, p) {
		a.Live[p] = false
	}
	return a
}
