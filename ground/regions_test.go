package ground_test

import (
	"bytes"
	"math"
	"slices"
	"testing"

	"bivouac/api"
	"bivouac/ground"
)

const (
	x = false // a cell that is not open
	o = true
)

func TestGridAndRegionsOfSmallMaps(t *testing.T) { // P7.2
	for _, c := range []struct {
		name    string
		m       api.Map
		class   int
		grid    []bool
		regions []int
	}{
		{"the chapter's example, tracked", flat(2, 1, 16, 0), api.Tracked, []bool{x, x}, []int{-1, -1}},
		{"the chapter's example, ship", flat(2, 1, 16, 0), api.Ship, []bool{o, o}, []int{0, 0}},
		{"the chapter's example, submarine", flat(2, 1, 16, 0), api.Submarine, []bool{x, x}, []int{-1, -1}},
		{"one cell", flat(1, 1, 0, 0), api.Tracked, []bool{o}, []int{0}},
		{"one cell, not open", flat(1, 1, 0, 0), api.Ship, []bool{x}, []int{-1}},
		{"one row", columns(5, 1), api.Amphibious, []bool{o, x, o, x, o}, []int{0, -1, 2, -1, 4}},
		{"one column", rows(1, 5), api.Amphibious, []bool{o, x, o, x, o}, []int{0, -1, 2, -1, 4}},
		{"one row, all", rows(4, 1), api.Hover, []bool{o, o, o, o}, []int{0, 0, 0, 0}},
		{"one column, all", columns(1, 4), api.Hover, []bool{o, o, o, o}, []int{0, 0, 0, 0}},
		{"columns", columns(3, 2), api.Tracked, []bool{o, x, o, o, x, o}, []int{0, -1, 2, 0, -1, 2}},
		{"rows", rows(2, 3), api.Tracked, []bool{o, o, x, x, o, o}, []int{0, 0, -1, -1, 4, 4}},
		{"checkerboard", checkerboard(3, 3), api.Amphibious,
			[]bool{x, o, x, o, x, o, x, o, x}, []int{-1, 1, -1, 3, -1, 5, -1, 7, -1}},
		{"a corner between them", canal(2, 2, []corner{{0, 0}, {2, 2}}), api.Ship,
			[]bool{o, x, x, o}, []int{0, -1, -1, 3}},
		{"the other corner between them", canal(2, 2, []corner{{2, 0}, {0, 2}}), api.Ship,
			[]bool{x, o, o, x}, []int{-1, 1, 2, -1}},
		{"end of a row, start of the next", canal(3, 2, []corner{{3, 0}, {0, 2}}), api.Submarine,
			[]bool{x, x, o, o, x, x}, []int{-1, -1, 2, 3, -1, -1}},
		{"a ring", walls(4, 4, []corner{{2, 2}}), api.Tracked,
			[]bool{o, o, o, o, o, x, x, o, o, x, x, o, o, o, o, o},
			[]int{0, 0, 0, 0, 0, -1, -1, 0, 0, -1, -1, 0, 0, 0, 0, 0}},
		{"an arm up to the least cell", canal(3, 3, []corner{{0, 3}, {1, 3}, {2, 3}, {3, 3}, {3, 2}, {3, 1}, {3, 0}}), api.Ship,
			[]bool{x, x, o, x, x, o, o, o, o}, []int{-1, -1, 2, -1, -1, 2, 2, 2, 2}},
	} {
		if grid, e := ground.Grid(c.m, c.class); e != api.OK || !slices.Equal(grid, c.grid) {
			t.Errorf("%s: Grid: %v, %d, want %v", c.name, grid, e, c.grid)
		}
		if regions, e := ground.Regions(c.m, c.class); e != api.OK || !slices.Equal(regions, c.regions) {
			t.Errorf("%s: Regions: %v, %d, want %v", c.name, regions, e, c.regions)
		}
	}
}

func TestGridAndRegionsOfAllMaps(t *testing.T) { // P7.2
	for k, m := range maps() {
		for _, class := range classes {
			if grid, e := ground.Grid(m, class); e != api.OK || !slices.Equal(grid, gridOf(m, class)) {
				t.Errorf("Grid of map %d, %d by %d, class %d: %v, %d", k, m.W, m.H, class, grid, e)
			}
			if regions, e := ground.Regions(m, class); e != api.OK || !slices.Equal(regions, regionsOf(m, class)) {
				t.Errorf("Regions of map %d, %d by %d, class %d: %v, %d", k, m.W, m.H, class, regions, e)
			}
		}
	}
}

// How many regions the shapes have is known without reckoning them.
func TestRegionsOfShapes(t *testing.T) { // P7.2
	count := func(m api.Map, class int) int {
		regions, e := ground.Regions(m, class)
		if e != api.OK || len(regions) != m.W*m.H {
			t.Errorf("Regions of %d by %d: %d numbers, %d", m.W, m.H, len(regions), e)
		}
		numbers := map[int]bool{}
		for _, n := range regions {
			numbers[n] = true
		}
		delete(numbers, -1)
		return len(numbers)
	}
	for _, c := range []struct {
		name  string
		m     api.Map
		class int
		want  int
	}{
		{"all open", flat(64, 64, 255, 9), api.Air, 1},
		{"none open", flat(64, 64, 0, 9), api.Ship, 0},
		{"columns", columns(64, 64), api.Tracked, 32},
		{"rows", rows(64, 64), api.Tracked, 32},
		{"checkerboard", checkerboard(64, 64), api.Hover, 2048},
		{"spiral of water", canal(64, 64, spiral(64, 64)), api.Submarine, 1},
		{"spiral of walls", walls(64, 64, spiral(64, 64)), api.Amphibious, 1},
		{"comb of water", canal(64, 64, comb(64, 64)), api.Ship, 1},
	} {
		for _, m := range turned(c.m) {
			if got := count(m, c.class); got != c.want {
				t.Errorf("%s: %d regions, want %d", c.name, got, c.want)
			}
		}
	}
}

func TestJoined(t *testing.T) { // P7.2
	canals := canal(5, 4, []corner{{0, 1}, {5, 1}, {5, 2}, {0, 4}}) // cells 0 5; 4 9 14; 15
	for _, c := range []struct {
		m           api.Map
		class, a, b int
		want        bool
	}{
		{flat(2, 1, 16, 0), api.Ship, 0, 1, true}, // the chapter's examples
		{flat(2, 1, 16, 0), api.Ship, 0, 2, false},
		{flat(2, 1, 16, 0), api.Submarine, 0, 1, false},
		{flat(1, 1, 0, 0), api.Tracked, 0, 0, true},
		{flat(1, 1, 0, 0), api.Ship, 0, 0, false}, // a cell and itself, not open
		{flat(64, 64, 0, 0), api.Air, 0, 4095, true},
		{flat(64, 64, 0, 0), api.Air, 0, 4096, false},
		{flat(64, 64, 0, 0), api.Ship, 0, 4095, false},
		{canals, api.Ship, 0, 5, true},
		{canals, api.Ship, 4, 14, true},
		{canals, api.Ship, 9, 9, true},
		{canals, api.Ship, 4, 5, false}, // the end of a row and the start of the next
		{canals, api.Ship, 0, 4, false},
		{canals, api.Ship, 14, 15, false},
		{canals, api.Ship, 0, 1, false}, // one of them is not open
		{canals, api.Ship, 1, 0, false},
		{canals, api.Ship, 1, 2, false}, // neither is
		{canals, api.Ship, 1, 1, false},
		{checkerboard(3, 3), api.Amphibious, 1, 3, false}, // a corner between them
		{checkerboard(3, 3), api.Amphibious, 1, 5, false},
		{canal(64, 64, spiral(64, 64)), api.Ship, 0, 31*64 + 31, true},
		{canal(64, 64, comb(64, 64)), api.Ship, 64 + 60, 61 * 64, true},  // the tips of the last tooth and of the first
		{canal(64, 64, comb(64, 64)), api.Ship, 64 + 62, 61 * 64, false}, // a cell beside the last tooth
	} {
		if is := ground.Joined(c.m, c.class, c.a, c.b); is != c.want {
			t.Errorf("Joined of %d by %d, class %d, cells %d, %d: %t", c.m.W, c.m.H, c.class, c.a, c.b, is)
		}
		if is := ground.Joined(c.m, c.class, c.b, c.a); is != c.want {
			t.Errorf("Joined of %d by %d, class %d, cells %d, %d: %t", c.m.W, c.m.H, c.class, c.b, c.a, is)
		}
	}
}

func TestJoinedOfAllPairs(t *testing.T) { // P7.2
	for _, m := range maps() {
		if m.W*m.H > 49 {
			continue
		}
		for _, class := range classes {
			regions := regionsOf(m, class)
			for a := range regions {
				for b := range regions {
					want := regions[a] >= 0 && regions[a] == regions[b]
					if ground.Joined(m, class, a, b) != want {
						t.Fatalf("Joined of %d by %d, class %d, cells %d, %d: %t", m.W, m.H, class, a, b, !want)
					}
				}
			}
		}
	}
}

func TestJoinedOfNothing(t *testing.T) { // P7.2 with R5
	for _, m := range []api.Map{flat(1, 1, 0, 0), flat(2, 1, 0, 0), flat(1, 64, 30, 0), flat(64, 64, 20, 0)} {
		n := m.W * m.H
		for _, no := range []int{-1, -n, n, n + 1, 4096, 1 << 32, math.MinInt, math.MaxInt} {
			for _, class := range classes {
				for _, other := range []int{0, n - 1, no, -1, n} {
					if ground.Joined(m, class, no, other) || ground.Joined(m, class, other, no) {
						t.Errorf("Joined of %d by %d, class %d, cells %d, %d: true", m.W, m.H, class, no, other)
					}
				}
			}
		}
		for _, class := range noClasses {
			if ground.Joined(m, class, 0, 0) || ground.Joined(m, class, 0, n-1) || ground.Joined(m, class, -1, n) {
				t.Errorf("Joined of %d by %d, class %d: true", m.W, m.H, class)
			}
		}
	}
	for _, m := range wrong() {
		for _, class := range append(noClasses, classes...) {
			for _, a := range []int{0, 1, -1, math.MinInt, math.MaxInt} {
				if ground.Joined(m, class, a, a) || ground.Joined(m, class, 0, a) || ground.Joined(m, class, a, 0) {
					t.Errorf("Joined of %d by %d, water %d, %d corners, class %d: true", m.W, m.H, m.Water, len(m.Corners), class)
				}
			}
		}
	}
}

func TestGridAndRegionsOfWrongArguments(t *testing.T) { // P7.2 with R2
	refused := func(m api.Map, class int) {
		if grid, e := ground.Grid(m, class); len(grid) != 0 || e != api.ErrArg {
			t.Errorf("Grid of %d by %d, water %d, %d corners, class %d: %v, %d", m.W, m.H, m.Water, len(m.Corners), class, grid, e)
		}
		if regions, e := ground.Regions(m, class); len(regions) != 0 || e != api.ErrArg {
			t.Errorf("Regions of %d by %d, water %d, %d corners, class %d: %v, %d", m.W, m.H, m.Water, len(m.Corners), class, regions, e)
		}
	}
	for _, m := range wrong() {
		for _, class := range append(noClasses, classes...) {
			refused(m, class)
		}
	}
	for _, m := range []api.Map{flat(1, 1, 0, 0), flat(64, 64, 255, 0), checkerboard(3, 2)} {
		for _, class := range noClasses {
			refused(m, class)
		}
	}
}

func TestResultsAreNewMemory(t *testing.T) { // P7.2 with R3
	m := columns(7, 5)
	grid, _ := ground.Grid(m, api.Tracked)
	regions, _ := ground.Regions(m, api.Tracked)
	wantGrid, wantRegions := slices.Clone(grid), slices.Clone(regions)
	for k := range grid {
		grid[k] = !grid[k]
		regions[k] = 1000 + k
	}
	gridAgain, _ := ground.Grid(m, api.Tracked)
	regionsAgain, _ := ground.Regions(m, api.Tracked)
	if !slices.Equal(gridAgain, wantGrid) || !slices.Equal(regionsAgain, wantRegions) {
		t.Errorf("what was done with a result is in the next one: %v, %v", gridAgain, regionsAgain)
	}
	for k := range regions {
		if grid[k] == wantGrid[k] || regions[k] != 1000+k {
			t.Errorf("a later call wrote into a result: %v, %v", grid, regions)
		}
	}
	clear(m.Corners) // the map is flat now
	if !slices.Equal(gridAgain, wantGrid) || !slices.Equal(regionsAgain, wantRegions) {
		t.Errorf("a result hangs on the map")
	}
	if all, _ := ground.Regions(m, api.Tracked); slices.Max(all) != 0 || slices.Min(all) != 0 {
		t.Errorf("the map as it was is kept: %v", all)
	}
}

func TestArgumentsStayAsTheyAre(t *testing.T) { // R3
	for _, m := range maps() {
		room := append(slices.Clone(m.Corners), 9, 9, 9, 9)
		before := slices.Clone(room)
		m.Corners = room[:len(m.Corners)]
		for _, class := range classes {
			ground.Open(m, class, 0, 0)
			ground.Grid(m, class)
			ground.Regions(m, class)
			ground.Joined(m, class, 0, m.W*m.H-1)
		}
		if !bytes.Equal(room, before) {
			t.Errorf("the corners of %d by %d were changed", m.W, m.H)
		}
	}
}

func TestWhatIsOpenToSeveral(t *testing.T) { // P7.3
	for k, m := range maps() {
		var grids [6][]bool
		for _, class := range classes {
			grids[class], _ = ground.Grid(m, class)
		}
		for n := range m.W * m.H {
			if grids[api.Submarine][n] && !grids[api.Ship][n] {
				t.Errorf("map %d: cell %d is open to a submarine, and not to a ship", k, n)
			}
			for _, class := range classes {
				if grids[class][n] && !grids[api.Air][n] {
					t.Errorf("map %d: cell %d is open to class %d, and not to Air", k, n, class)
				}
			}
		}
	}
}

func TestNumbersOfRegions(t *testing.T) { // P7.3
	for k, m := range maps() {
		for _, class := range classes {
			grid, _ := ground.Grid(m, class)
			regions, _ := ground.Regions(m, class)
			if len(grid) != m.W*m.H || len(regions) != m.W*m.H {
				t.Fatalf("map %d, class %d: %d and %d answers", k, class, len(grid), len(regions))
			}
			for n, region := range regions {
				if (region == -1) == grid[n] {
					t.Errorf("map %d, class %d: cell %d has %d, open %t", k, class, n, region, grid[n])
				}
				if region < -1 || region > n || region >= 0 && regions[region] != region {
					t.Errorf("map %d, class %d: cell %d has %d, which is not the least cell of its region", k, class, n, region)
				}
				right, below := n+1, n+m.W
				if right%m.W != 0 && grid[n] && grid[right] && regions[right] != region {
					t.Errorf("map %d, class %d: cells %d and %d have different regions", k, class, n, right)
				}
				if below < len(grid) && grid[n] && grid[below] && regions[below] != region {
					t.Errorf("map %d, class %d: cells %d and %d have different regions", k, class, n, below)
				}
			}
		}
	}
}
