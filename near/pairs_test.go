package near_test

import (
	"math/rand"
	"slices"
	"testing"

	"bivouac/api"
)

func TestPairs(t *testing.T) { // P12.4
	for _, c := range []struct {
		l    []api.Spot
		r    int64
		want [][2]int
	}{
		{nil, 0, nil},
		{nil, span, nil},
		{[]api.Spot{}, span, nil},
		{[]api.Spot{{X: 4, Y: 4}}, 0, nil}, // nobody is near himself
		{[]api.Spot{{X: 4, Y: 4}}, span, nil},
		{[]api.Spot{{}, {X: 3, Y: 4}, {X: 3, Y: 4}}, 0, [][2]int{{1, 2}}},
		{[]api.Spot{{}, {X: 3, Y: 4}, {X: 3, Y: 4}}, 4, [][2]int{{1, 2}}},
		{[]api.Spot{{}, {X: 3, Y: 4}, {X: 3, Y: 4}}, 5, [][2]int{{0, 1}, {0, 2}, {1, 2}}},
		{[]api.Spot{{X: 3}, {X: 1}, {X: 4}, {X: 1}, {X: 5}}, 1, [][2]int{{0, 2}, {1, 3}, {2, 4}}},
		{[]api.Spot{{X: 3}, {X: 1}, {X: 4}, {X: 1}, {X: 5}}, 2, [][2]int{{0, 1}, {0, 2}, {0, 3}, {0, 4}, {1, 3}, {2, 4}}},
		{times(4, api.Spot{X: span, Y: span}), 0, [][2]int{{0, 1}, {0, 2}, {0, 3}, {1, 2}, {1, 3}, {2, 3}}},
		{corners(), span - 1, nil},
		{corners(), span, [][2]int{{0, 1}, {0, 2}, {1, 3}, {2, 3}}}, // not across
		{[]api.Spot{{X: span, Y: 1}, {}, {X: span}}, span, [][2]int{{0, 2}, {1, 2}}},
		{[]api.Spot{{}, {X: span - 1}}, span - 2, nil},
		{[]api.Spot{{}, {X: span - 1}}, span - 1, [][2]int{{0, 1}}},
	} {
		if list := pairs(t, indexOf(t, c.l), c.r); !slices.Equal(list, c.want) {
			t.Errorf("Pairs(%d) of %v: %v, want %v", c.r, c.l, list, c.want)
		}
	}
}

func TestPairsAsByASearch(t *testing.T) { // P12.4
	r := rand.New(rand.NewSource(6))
	found := 0
	for _, l := range lists() {
		n := indexOf(t, l)
		distances := []int64{0, 1, 2, 3, 5, 100, 1000, 65535, 1 << 20, 1 << 22, 1<<22 + 1, 1 << 24, span / 2, span - 1, span}
		if len(l) > 0 {
			s := l[r.Intn(len(l))]
			distances = append(distances, distancesOf(r, l, s.X, s.Y)...)
		}
		for _, d := range distances {
			list, want := pairs(t, n, d), pairsOf(l, d)
			if !slices.Equal(list, want) {
				t.Fatalf("Pairs(%d) of %v: %v, want %v", d, l, list, want)
			}
			if len(list) > 0 && len(list) < len(l)*(len(l)-1)/2 {
				found++
			}
		}
	}
	if found < 300 {
		t.Errorf("only %d times some, but not all", found)
	}
}

func TestPairsOverBorders(t *testing.T) { // P12.4
	for bits := 10; bits <= 26; bits++ {
		side := int64(1) << bits
		for _, k := range []int64{0, 1, span/side - 1, span / side} {
			at := kept(k * side)
			l := []api.Spot{spotAt(at, at), spotAt(at-1, at), spotAt(at+1, at-1), spotAt(at, at+1), spotAt(at-1, at-1), spotAt(at+side, at), spotAt(at, at-side), spotAt(at+side-1, at+1)}
			n := indexOf(t, l)
			for _, d := range []int64{0, 1, 2, 3, side - 2, side - 1, side, side + 1, 2 * side} {
				if d <= span && !slices.Equal(pairs(t, n, d), pairsOf(l, d)) {
					t.Fatalf("Pairs(%d) of %v: %v, want %v", d, l, pairs(t, n, d), pairsOf(l, d))
				}
			}
		}
	}
}

// all are those of so many spots, by i, and then by j.
func all(n int) [][2]int {
	var list [][2]int
	for i := range n {
		for j := i + 1; j < n; j++ {
			list = append(list, [2]int{i, j})
		}
	}
	return list
}

func TestAllPairs(t *testing.T) { // P12.4
	for _, s := range append(corners(), api.Spot{X: 1 << 22, Y: 1<<22 - 1}) {
		for _, n := range []int{0, 1, 2, 3, 16, 255, most} {
			x := indexOf(t, times(n, s))
			for _, d := range []int64{0, 1, span} {
				if list := pairs(t, x, d); !slices.Equal(list, all(n)) {
					t.Errorf("Pairs(%d) of %d spots on one place: %d pairs", d, n, len(list))
				}
			}
		}
	}
	r := rand.New(rand.NewSource(7))
	var l []api.Spot
	for range most { // at most span of one another, since they lie in a square of 5/8 of it
		l = append(l, api.Spot{X: span/4 + r.Int63n(span*5/8), Y: span/8 + r.Int63n(span*5/8)})
	}
	if list := pairs(t, indexOf(t, l), span); !slices.Equal(list, all(most)) {
		t.Errorf("Pairs(Span) of scattered spots: %d pairs", len(list))
	}
}

func TestPairsOfWrongDistances(t *testing.T) { // P12.4 with R2, R5
	for _, l := range [][]api.Spot{nil, {}, {{}}, corners(), times(most, api.Spot{X: 5})} {
		n := indexOf(t, l)
		for _, no := range noNumbers {
			if list, e := n.Pairs(no); len(list) != 0 || e != api.ErrArg {
				t.Errorf("Pairs(%d) of %d spots: %v, %d", no, len(l), list, e)
			}
		}
		for _, d := range bounds {
			if list := pairs(t, n, d); !slices.Equal(list, pairsOf(l, d)) {
				t.Errorf("Pairs(%d) of %d spots: %v", d, len(l), list)
			}
		}
	}
}

func TestPairsAreNewMemory(t *testing.T) { // P12.4 with R3
	l := append(ring(500, 500, 9), times(9, api.Spot{X: 500, Y: 500})...)
	n := indexOf(t, l)
	first := pairs(t, n, 45)
	want := slices.Clone(first)
	for i := range first {
		first[i] = [2]int{-1, -1}
	}
	again := pairs(t, n, 45)
	if !slices.Equal(again, want) || !slices.Equal(want, pairsOf(l, 45)) {
		t.Errorf("what was done with a result is in the next one: %v", again)
	}
	if slices.ContainsFunc(first, func(p [2]int) bool { return p != [2]int{-1, -1} }) {
		t.Errorf("a later call wrote into a result: %v", first)
	}
}
