package crater_test

import (
	"bytes"
	"math/rand"
	"slices"
	"testing"

	"bivouac/api"
	"bivouac/relief"
)

func TestNoCornerIsRaised(t *testing.T) { // P9.3
	r := rand.New(rand.NewSource(95))
	for k, m := range maps() {
		for _, count := range []int{1, 5, 50} {
			x := all(t, m, someHits(r, m, count))
			for c := range m.Corners {
				if x.Corners[c] > m.Corners[c] {
					t.Fatalf("map %d: corner %d was raised from %d to %d", k, c, m.Corners[c], x.Corners[c])
				}
			}
			if x.Water != m.Water || x.W != m.W || x.H != m.H {
				t.Errorf("map %d: more than corners has changed", k)
			}
		}
	}
}

// A low corner cannot be lowered as much as a high one: those are held against each other that are high enough.
func TestFartherCornersOfMaps(t *testing.T) { // P9.3
	r := rand.New(rand.NewSource(96))
	compared := 0
	for k, m := range maps() {
		for _, h := range someHits(r, m, 12) {
			x := strike(t, m, h)
			var near []int // corners of the square around the hit, the nearest first
			square := func(c int) int {
				i, j := c%(m.W+1)-h.I, c/(m.W+1)-h.J
				return i*i + j*j
			}
			for c := range m.Corners {
				if square(c) <= 100 {
					near = append(near, c)
				}
			}
			slices.SortFunc(near, func(a, b int) int { return square(a) - square(b) })
			for at, c := range near {
				by := m.Corners[c] - x.Corners[c]
				for _, far := range near[at+1:] {
					if x.Corners[c] == 0 && m.Corners[c] < m.Corners[far] {
						continue
					}
					compared++
					if m.Corners[far]-x.Corners[far] > by {
						t.Fatalf("map %d: %v lowers corner %d by %d, and farther corner %d more", k, h, c, by, far)
					}
				}
			}
		}
	}
	if compared < 100000 {
		t.Errorf("just %d pairs of corners", compared)
	}
}

func TestEachOrderOfHits(t *testing.T) { // P9.3
	r := rand.New(rand.NewSource(97))
	for k, m := range maps() {
		l := someHits(r, m, 4)
		want := all(t, m, l)
		for _, order := range orders(4) {
			var turned []api.Hit
			for _, n := range order {
				turned = append(turned, l[n])
			}
			if x := all(t, m, turned); !same(x, want) {
				t.Fatalf("map %d: hits %v in the order %v: %v, want %v", k, l, order, x, want)
			}
		}
		l = someHits(r, m, 40)
		want = all(t, m, l)
		for range 5 {
			r.Shuffle(len(l), func(a, b int) { l[a], l[b] = l[b], l[a] })
			if x := all(t, m, l); !same(x, want) {
				t.Fatalf("map %d: shuffled hits %v: %v, want %v", k, l, x, want)
			}
		}
	}
}

// orders are all those of the numbers below n.
func orders(n int) [][]int {
	if n == 0 {
		return [][]int{nil}
	}
	var list [][]int
	for _, o := range orders(n - 1) {
		for at := range n {
			list = append(list, slices.Insert(slices.Clone(o), at, n-1))
		}
	}
	return list
}

func TestOneByOne(t *testing.T) { // P9.2, P9.3
	r := rand.New(rand.NewSource(98))
	for k, m := range maps() {
		l := someHits(r, m, 30)
		want := all(t, m, l)
		x := m
		for n, h := range l {
			x = strike(t, x, h)
			if y := all(t, x, l[n+1:]); !same(y, want) {
				t.Fatalf("map %d: %d hits one by one, the others at once: %v, want %v", k, n+1, y, want)
			}
		}
		if !same(x, want) {
			t.Fatalf("map %d: hits one by one: %v, want %v", k, x, want)
		}
	}
}

func TestReliefTakesWhatResults(t *testing.T) { // P9.3
	r := rand.New(rand.NewSource(99))
	for k, m := range maps() {
		x := all(t, m, someHits(r, m, 25))
		if e := relief.Check(x); e != api.OK {
			t.Fatalf("map %d: Check of what results: %d", k, e)
		}
		back, e := relief.Decode(relief.Encode(x))
		if e != api.OK || !same(back, x) {
			t.Errorf("map %d: decoded as %v, %d", k, back, e)
		}
		if b := relief.Encode(x); !bytes.Equal(b[:3], relief.Encode(m)[:3]) {
			t.Errorf("map %d: sides and water are encoded as %v", k, b[:3])
		}
		for n := range x.W * x.H {
			was, _ := relief.Depth(m, n%m.W, n/m.W)
			depth, e := relief.Depth(x, n%m.W, n/m.W)
			if e != api.OK || depth < was { // the water stays, and no corner is raised
				t.Errorf("map %d: the depth of cell %d falls from %d to %d, %d", k, n, was, depth, e)
			}
		}
	}
}
