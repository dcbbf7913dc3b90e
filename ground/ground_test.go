package ground_test

import (
	"math"
	"testing"

	"bivouac/api"
	"bivouac/ground"
)

func TestNumbersOfClasses(t *testing.T) { // P7.1
	for class, by := range []int{api.Tracked, api.Hover, api.Ship, api.Submarine, api.Amphibious, api.Air} {
		if class != by {
			t.Errorf("class %d has the number %d", class, by)
		}
		if _, e := ground.Open(flat(1, 1, 0, 0), class, 0, 0); e != api.OK {
			t.Errorf("class %d: %d", class, e)
		}
	}
}

func TestOpenAtBounds(t *testing.T) { // P7.1
	const land = 40 // the floor of each cell below: water at 40 + d is d deep
	for _, c := range []struct {
		class, slope, depth int
		want                bool
	}{
		{api.Tracked, 0, 0, true},
		{api.Tracked, 24, 0, true},
		{api.Tracked, 25, 0, false},
		{api.Tracked, 0, 12, true},
		{api.Tracked, 0, 13, false},
		{api.Tracked, 24, 12, true}, // both together
		{api.Tracked, 25, 12, false},
		{api.Tracked, 24, 13, false},
		{api.Tracked, 25, 13, false},
		{api.Tracked, 215, 0, false},
		{api.Tracked, 0, 215, false},
		{api.Hover, 0, 0, true},
		{api.Hover, 16, 0, true},
		{api.Hover, 17, 0, false},
		{api.Hover, 16, 1, true}, // one of them is enough
		{api.Hover, 17, 1, true},
		{api.Hover, 215, 0, false},
		{api.Hover, 215, 1, true},
		{api.Hover, 215, 215, true},
		{api.Ship, 0, 0, false},
		{api.Ship, 0, 15, false},
		{api.Ship, 0, 16, true},
		{api.Ship, 215, 15, false},
		{api.Ship, 215, 16, true},
		{api.Ship, 0, 215, true},
		{api.Submarine, 0, 0, false},
		{api.Submarine, 0, 16, false},
		{api.Submarine, 0, 23, false},
		{api.Submarine, 0, 24, true},
		{api.Submarine, 215, 23, false},
		{api.Submarine, 215, 24, true},
		{api.Submarine, 0, 215, true},
		{api.Amphibious, 0, 0, true},
		{api.Amphibious, 20, 0, true},
		{api.Amphibious, 21, 0, false},
		{api.Amphibious, 20, 215, true},
		{api.Amphibious, 21, 215, false},
		{api.Amphibious, 215, 0, false},
		{api.Air, 0, 0, true},
		{api.Air, 215, 0, true},
		{api.Air, 0, 215, true},
		{api.Air, 215, 215, true},
	} {
		m := cell(land+c.depth, land, land, land, byte(land+c.slope))
		if is, e := ground.Open(m, c.class, 0, 0); is != c.want || e != api.OK {
			t.Errorf("Open to class %d at slope %d, depth %d: %t, %d, want %t", c.class, c.slope, c.depth, is, e, c.want)
		}
	}
}

func TestOpenAtAllSlopesAndDepths(t *testing.T) { // P7.1
	for slope := range 256 {
		for depth := range 256 {
			m := cell(depth, 0, 0, 0, 0)
			m.Corners[(slope+depth)%4] = byte(slope) // the highest corner is each of the four
			for _, class := range classes {
				want := isOpen(class, slope, depth)
				if is, e := ground.Open(m, class, 0, 0); is != want || e != api.OK {
					t.Fatalf("Open to class %d at slope %d, depth %d: %t, %d, want %t", class, slope, depth, is, e, want)
				}
			}
		}
	}
}

// Water that is below the floor, however far, is no depth.
func TestOpenOverLowWater(t *testing.T) { // P7.1
	for water := range 101 {
		m := cell(water, 100, 116, 100, 100)
		for class, want := range []bool{true, true, false, false, true, true} {
			if is, e := ground.Open(m, class, 0, 0); is != want || e != api.OK {
				t.Errorf("Open to class %d at water %d: %t, %d, want %t", class, water, is, e, want)
			}
		}
	}
}

func TestOpenOfAllCells(t *testing.T) { // P7.1
	for _, m := range maps() {
		for _, class := range classes {
			for n, want := range gridOf(m, class) {
				if is, e := ground.Open(m, class, n%m.W, n/m.W); is != want || e != api.OK {
					t.Fatalf("Open of %d by %d to class %d at cell %d: %t, %d, want %t", m.W, m.H, class, n, is, e, want)
				}
			}
		}
	}
}

// noCells are places of cells that a map has not.
func noCells(m api.Map) [][2]int {
	return [][2]int{
		{-1, 0}, {0, -1}, {-1, -1}, {m.W, 0}, {0, m.H}, {m.W, m.H}, {m.W - 1, m.H}, {m.W, m.H - 1},
		{-1, m.H - 1}, {m.W - 1, -1}, {m.W, -1}, {-1, m.H}, {m.W + 1, 0}, {0, m.H + 1}, {1 << 32, 0}, {0, 1 << 32},
		{math.MinInt, 0}, {0, math.MinInt}, {math.MaxInt, 0}, {0, math.MaxInt},
		{math.MinInt, math.MaxInt}, {math.MaxInt, math.MinInt}, {math.MaxInt, math.MaxInt}, {math.MinInt, math.MinInt},
	}
}

func TestOpenAtNoCell(t *testing.T) { // P7.1 with R2, R5
	for _, m := range maps() {
		for _, c := range noCells(m) {
			for _, class := range classes {
				if is, e := ground.Open(m, class, c[0], c[1]); is || e != api.ErrRange {
					t.Fatalf("Open of %d by %d to class %d at %v: %t, %d", m.W, m.H, class, c, is, e)
				}
			}
		}
	}
}

func TestOpenToNoClass(t *testing.T) { // P7.1 with R2: a class that is none comes before a cell that is none
	for _, m := range []api.Map{flat(1, 1, 0, 0), flat(1, 1, 255, 0), flat(64, 64, 20, 0), checkerboard(3, 2)} {
		for _, class := range noClasses {
			for _, c := range append(noCells(m), [2]int{0, 0}, [2]int{m.W - 1, m.H - 1}) {
				if is, e := ground.Open(m, class, c[0], c[1]); is || e != api.ErrArg {
					t.Errorf("Open of %d by %d to class %d at %v: %t, %d", m.W, m.H, class, c, is, e)
				}
			}
		}
	}
}

func TestOpenOfWrongMaps(t *testing.T) { // P7.1 with R2: a map that is not valid comes before all else
	for _, m := range wrong() {
		for _, class := range append(noClasses, classes...) {
			for _, c := range append(noCells(m), [2]int{0, 0}, [2]int{1, 1}) {
				if is, e := ground.Open(m, class, c[0], c[1]); is || e != api.ErrArg {
					t.Errorf("Open of %d by %d, water %d, %d corners, to class %d at %v: %t, %d", m.W, m.H, m.Water, len(m.Corners), class, c, is, e)
				}
			}
		}
	}
}
