package crater_test

import (
	"bytes"
	"math/rand"
	"slices"
	"testing"

	"bivouac/api"
	"bivouac/crater"
)

func strike(t *testing.T, m api.Map, h api.Hit) api.Map {
	t.Helper()
	x, e := crater.Strike(m, h)
	if e != api.OK {
		t.Fatalf("Strike of %d by %d with %v: %d", m.W, m.H, h, e)
	}
	return x
}

func all(t *testing.T, m api.Map, l []api.Hit) api.Map {
	t.Helper()
	x, e := crater.All(m, l)
	if e != api.OK {
		t.Fatalf("All of %d by %d with %v: %d", m.W, m.H, l, e)
	}
	return x
}

// becomes: is a map the one before, but for its corners, which are those wanted?
func becomes(x, m api.Map, corners []byte) bool {
	m.Corners = corners
	return same(x, m)
}

func TestStrikeOfExample(t *testing.T) { // P9.2
	m := flat(8, 8, 5)
	x := strike(t, m, api.Hit{I: 5, J: 5, Radius: 2, Deep: 8})
	want := bytes.Repeat([]byte{5}, 81)
	for _, c := range [][3]int{{5, 5, 0}, {6, 5, 0}, {4, 5, 0}, {5, 6, 0}, {5, 4, 0}, {6, 6, 1}, {4, 4, 1}, {4, 6, 1}, {6, 4, 1}} {
		want[9*c[1]+c[0]] = byte(c[2])
	}
	if !becomes(x, m, want) {
		t.Errorf("Strike: %v, want %v", x, want)
	}
}

func TestStrikeOfSmallMaps(t *testing.T) { // P9.2
	for _, c := range []struct {
		w, h    int
		corners []byte
		hit     api.Hit
		want    []byte
	}{
		{1, 1, []byte{10, 20, 30, 40}, api.Hit{I: 0, J: 0, Radius: 1, Deep: 7}, []byte{3, 20, 30, 40}},
		{1, 1, []byte{10, 20, 30, 40}, api.Hit{I: 1, J: 0, Radius: 1, Deep: 7}, []byte{10, 13, 30, 40}},
		{1, 1, []byte{10, 20, 30, 40}, api.Hit{I: 0, J: 1, Radius: 1, Deep: 7}, []byte{10, 20, 23, 40}},
		{1, 1, []byte{10, 20, 30, 40}, api.Hit{I: 1, J: 1, Radius: 1, Deep: 255}, []byte{10, 20, 30, 0}},
		{1, 1, []byte{10, 20, 30, 40}, api.Hit{I: 0, J: 0, Radius: 2, Deep: 20}, []byte{0, 5, 15, 30}},
		{1, 1, []byte{20, 20, 30, 40}, api.Hit{I: 0, J: 0, Radius: 2, Deep: 20}, []byte{0, 5, 15, 30}}, // just to 0
		{1, 1, []byte{19, 21, 30, 40}, api.Hit{I: 0, J: 0, Radius: 2, Deep: 20}, []byte{0, 6, 15, 30}},
		{1, 1, []byte{21, 15, 14, 9}, api.Hit{I: 0, J: 0, Radius: 2, Deep: 20}, []byte{1, 0, 0, 0}},
		{1, 1, []byte{10, 20, 30, 40}, api.Hit{I: -1, J: 0, Radius: 2, Deep: 8}, []byte{4, 20, 26, 40}},
		{1, 1, []byte{10, 20, 30, 40}, api.Hit{I: 2, J: 1, Radius: 2, Deep: 8}, []byte{10, 16, 30, 34}},
		{1, 1, []byte{10, 20, 30, 40}, api.Hit{I: -1, J: 0, Radius: 1, Deep: 255}, []byte{10, 20, 30, 40}},
		{1, 1, []byte{255, 0, 255, 0}, api.Hit{I: 0, J: 0, Radius: 8, Deep: 255}, []byte{0, 0, 4, 0}},
		{1, 1, []byte{255, 255, 255, 255}, api.Hit{I: 128, J: 128, Radius: 8, Deep: 255}, []byte{255, 255, 255, 255}},
		{3, 1, []byte{9, 9, 9, 9, 9, 9, 9, 9}, api.Hit{I: 3, J: 0, Radius: 2, Deep: 8}, []byte{9, 9, 3, 1, 9, 9, 5, 3}},
		{1, 3, []byte{9, 9, 9, 9, 9, 9, 9, 9}, api.Hit{I: 1, J: 3, Radius: 2, Deep: 8}, []byte{9, 9, 9, 9, 5, 3, 3, 1}},
	} {
		m := api.Map{W: c.w, H: c.h, Water: 77, Corners: c.corners}
		if x := strike(t, m, c.hit); !becomes(x, m, c.want) {
			t.Errorf("Strike of %v with %v: %v, want %v", m, c.hit, x, c.want)
		}
	}
}

func TestStrikeOnManyMaps(t *testing.T) { // P9.2
	changed, below, beside := 0, 0, 0
	for k, m := range maps() {
		for _, h := range hitsOn(m) {
			want := cornersOf(m, h)
			x := strike(t, m, h)
			if !becomes(x, m, want) {
				t.Fatalf("map %d: Strike of %v with %v: %v, want %v", k, m, h, x, want)
			}
			if !bytes.Equal(want, m.Corners) {
				changed++
				if h.I < 0 || h.I > m.W || h.J < 0 || h.J > m.H {
					beside++
				}
			}
			if y := all(t, m, []api.Hit{h}); !same(x, y) {
				t.Fatalf("map %d: All with %v alone: %v, want %v", k, h, y, x)
			}
			for c, height := range m.Corners {
				if lowersOf(h, c%(m.W+1), c/(m.W+1)) > int(height) {
					below++
				}
			}
		}
	}
	if changed < 5000 || below < 1000 || beside < 1000 {
		t.Errorf("%d changed, of them %d from beside, %d corners that would fall below 0", changed, beside, below)
	}
}

// Every radius at every corner of a map, and at those around it.
func TestStrikeEverywhere(t *testing.T) { // P9.2
	for _, m := range []api.Map{rough(1, 5, 3, 255), rough(2, 3, 6, 90), flat(1, 4, 255)} {
		for i := -10; i <= m.W+10; i++ {
			for j := -10; j <= m.H+10; j++ {
				for radius := 1; radius <= 8; radius++ {
					h := api.Hit{I: i, J: j, Radius: radius, Deep: 10*radius + 97}
					if x, want := strike(t, m, h), cornersOf(m, h); !becomes(x, m, want) {
						t.Fatalf("Strike of %v with %v: %v, want %v", m, h, x, want)
					}
				}
			}
		}
	}
}

func TestStrikeOfAllHeightsAndDepths(t *testing.T) { // P9.2
	for height := range 256 {
		for deep := range 256 {
			x := strike(t, flat(1, 1, height), api.Hit{I: 0, J: 0, Radius: 1, Deep: deep})
			h := byte(height)
			if want := []byte{byte(max(height-deep, 0)), h, h, h}; !bytes.Equal(x.Corners, want) {
				t.Fatalf("Strike of %d by %d: %v, want %v", height, deep, x.Corners, want)
			}
		}
	}
}

func TestAll(t *testing.T) { // P9.2
	r := rand.New(rand.NewSource(92))
	for k, m := range maps() {
		for _, count := range []int{0, 1, 2, 3, 10, 60} {
			l := someHits(r, m, count)
			if x, want := all(t, m, l), cornersOf(m, l...); !becomes(x, m, want) {
				t.Fatalf("map %d: All of %v with %v: %v, want %v", k, m, l, x, want)
			}
		}
		h := someHits(r, m, 1)[0]
		if x, want := all(t, m, []api.Hit{h, h}), cornersOf(m, h, h); !becomes(x, m, want) {
			t.Fatalf("map %d: All of %v with %v twice: %v, want %v", k, m, h, x, want)
		}
		for _, none := range [][]api.Hit{nil, {}} {
			if x := all(t, m, none); !same(x, m) {
				t.Errorf("map %d: All without hits: %v", k, x)
			}
		}
	}
}

func TestSameHitTwice(t *testing.T) { // P9.2
	h := api.Hit{I: 0, J: 0, Radius: 2, Deep: 8}
	m := flat(2, 1, 10)
	if x := all(t, m, []api.Hit{h, h}); !becomes(x, m, []byte{0, 0, 10, 0, 2, 10}) {
		t.Errorf("All with a hit twice: %v", x)
	}
	// Each hit is rounded down by itself: of 10 / 4, twice, no corner is lowered by 5.
	h = api.Hit{I: 0, J: 0, Radius: 2, Deep: 5}
	if x := all(t, m, []api.Hit{h, h}); !becomes(x, m, []byte{0, 4, 10, 4, 6, 10}) {
		t.Errorf("All with a hit twice: %v", x)
	}
}

func TestManyHits(t *testing.T) { // P9.2
	m := flat(64, 64, 255)
	one := api.Hit{I: 64, J: 64, Radius: 1, Deep: 1}
	for _, count := range []int{254, 255, 256, 100000} {
		x := all(t, m, slices.Repeat([]api.Hit{one}, count))
		want := bytes.Clone(m.Corners)
		want[len(want)-1] = byte(max(255-count, 0))
		if !becomes(x, m, want) {
			t.Errorf("All with %d hits: the last corner is %d", count, x.Corners[len(want)-1])
		}
	}
}

func TestWrongMaps(t *testing.T) { // P9.2 with R2
	right := api.Hit{I: 0, J: 0, Radius: 2, Deep: 8}
	for _, m := range wrongMaps() {
		for _, h := range append(wrongHits(), right, api.Hit{I: 128, J: 128, Radius: 1}) {
			if x, e := crater.Strike(m, h); e != api.ErrArg || !empty(x) {
				t.Errorf("Strike of %d by %d, water %d, %d corners, with %v: %v, %d", m.W, m.H, m.Water, len(m.Corners), h, x, e)
			}
			for _, l := range [][]api.Hit{nil, {}, {h}, {right, h}, {h, right}} {
				if x, e := crater.All(m, l); e != api.ErrArg || !empty(x) {
					t.Errorf("All of %d by %d, water %d, %d corners, with %v: %v, %d", m.W, m.H, m.Water, len(m.Corners), l, x, e)
				}
			}
		}
	}
}

func TestWrongHits(t *testing.T) { // P9.2 with R2
	r := rand.New(rand.NewSource(93))
	for k, m := range maps() {
		before := bytes.Clone(m.Corners)
		for _, h := range wrongHits() {
			if x, e := crater.Strike(m, h); e != api.ErrArg || !empty(x) {
				t.Errorf("map %d: Strike with %v: %v, %d", k, h, x, e)
			}
			for _, count := range []int{0, 1, 4} {
				right := someHits(r, m, count)
				for at := range count + 1 { // the first, one in the middle, the last
					l := slices.Insert(slices.Clone(right), at, h)
					if x, e := crater.All(m, l); e != api.ErrArg || !empty(x) {
						t.Errorf("map %d: All with %v: %v, %d", k, l, x, e)
					}
				}
			}
			if x, e := crater.All(m, []api.Hit{h, h}); e != api.ErrArg || !empty(x) {
				t.Errorf("map %d: All with %v twice: %v, %d", k, h, x, e)
			}
		}
		if !bytes.Equal(m.Corners, before) {
			t.Errorf("map %d was changed", k)
		}
	}
}

// Bounds of a hit that may just be are taken, also where the map is far away.
func TestHitsAtTheirBounds(t *testing.T) { // P9.2
	for _, m := range maps() {
		for _, i := range []int{-64, 128} {
			for _, j := range []int{-64, 128} {
				if x := strike(t, m, api.Hit{I: i, J: j, Radius: 8, Deep: 255}); !same(x, m) {
					t.Errorf("Strike of %d by %d at %d, %d: %v", m.W, m.H, i, j, x)
				}
			}
		}
	}
}

func TestResultsAreNewMemory(t *testing.T) { // P9.2 with R3
	far := api.Hit{I: 128, J: 128, Radius: 1, Deep: 255} // nothing is lowered
	near := api.Hit{I: 0, J: 0, Radius: 2, Deep: 8}
	calls := []func(api.Map) (api.Map, api.Errno){
		func(m api.Map) (api.Map, api.Errno) { return crater.Strike(m, near) },
		func(m api.Map) (api.Map, api.Errno) { return crater.Strike(m, far) },
		func(m api.Map) (api.Map, api.Errno) { return crater.All(m, nil) },
		func(m api.Map) (api.Map, api.Errno) { return crater.All(m, []api.Hit{far}) },
		func(m api.Map) (api.Map, api.Errno) { return crater.All(m, []api.Hit{near, far, near}) },
	}
	for k, call := range calls {
		room := bytes.Repeat([]byte{100}, 32)
		m := api.Map{W: 2, H: 2, Water: 5, Corners: room[:9]}
		x, e := call(m)
		y, _ := call(m)
		if e != api.OK || !bytes.Equal(room, bytes.Repeat([]byte{100}, 32)) {
			t.Fatalf("call %d: %d, or its argument was changed: %v", k, e, room)
		}
		was := bytes.Clone(x.Corners)
		for c := range room { // what a caller does to the argument
			room[c] = 1
		}
		if !bytes.Equal(x.Corners, was) {
			t.Errorf("call %d keeps its argument's corners", k)
		}
		for c := range x.Corners { // and to the result
			x.Corners[c] = 2
		}
		_ = append(x.Corners, 2, 2, 2)
		if !bytes.Equal(room, bytes.Repeat([]byte{1}, 32)) || !bytes.Equal(y.Corners, was) {
			t.Errorf("call %d shares its result", k)
		}
	}
}

func TestArgumentsStayAsTheyAre(t *testing.T) { // R3
	r := rand.New(rand.NewSource(94))
	for k, m := range maps() {
		corners := bytes.Clone(m.Corners)
		l := someHits(r, m, 20)
		hits := slices.Clone(l)
		x := all(t, m, l)
		strike(t, m, l[0])
		crater.All(m, append(l[:10:10], api.Hit{}))
		if !bytes.Equal(m.Corners, corners) || !slices.Equal(l, hits) {
			t.Errorf("map %d: an argument was changed", k)
		}
		was := bytes.Clone(x.Corners)
		for c := range l {
			l[c] = api.Hit{}
		}
		if !bytes.Equal(x.Corners, was) {
			t.Errorf("map %d: the hits are kept", k)
		}
		if again := all(t, m, hits); !same(again, x) { // R4
			t.Errorf("map %d: another result of the same arguments", k)
		}
	}
}
