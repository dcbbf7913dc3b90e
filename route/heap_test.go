package route

import (
	"math/rand"
	"slices"
	"testing"
)

// Things are put and taken in turns, and held against a sorted list.
func TestHeap(t *testing.T) {
	r := rand.New(rand.NewSource(20))
	for round := range 300 {
		h := newHeap(func(a, b int) bool { return a < b })
		var list []int
		for range 200 {
			if r.Intn(100) < 40+round/10 {
				x := r.Intn(1 + round)
				h.put(x)
				list = append(list, x)
				slices.Sort(list)
				continue
			}
			x, ok := h.take()
			if ok != (len(list) > 0) || !ok && x != 0 || ok && x != list[0] {
				t.Fatalf("taken of %v: %d, %t", list, x, ok)
			}
			list = list[min(1, len(list)):]
		}
	}
}

func TestHeapOfOtherThings(t *testing.T) {
	h := newHeap(func(a, b string) bool { return a > b })
	for _, x := range []string{"b", "d", "a", "c", "d"} {
		h.put(x)
	}
	for _, want := range []string{"d", "d", "c", "b", "a", ""} {
		if x, ok := h.take(); x != want || ok != (want != "") {
			t.Errorf("taken: %q, %t, want %q", x, ok, want)
		}
	}
}
