package ray_test

import (
	"math"
	"slices"
	"testing"

	"bivouac/api"
	"bivouac/ray"
)

func line(t *testing.T, from, to [2]int) [][2]int {
	t.Helper()
	cells, e := ray.Line(from[0], from[1], to[0], to[1])
	if e != api.OK {
		t.Fatalf("Line from %v to %v: %d", from, to, e)
	}
	return cells
}

func TestLine(t *testing.T) { // P8.1
	for _, c := range []struct {
		from, to [2]int
		want     [][2]int
	}{
		{[2]int{0, 0}, [2]int{3, 1}, [][2]int{{0, 0}, {1, 0}, {2, 1}, {3, 1}}}, // the chapter's examples
		{[2]int{2, 2}, [2]int{2, 2}, [][2]int{{2, 2}}},
		{[2]int{3, 1}, [2]int{0, 0}, [][2]int{{3, 1}, {2, 1}, {1, 0}, {0, 0}}},
		{[2]int{0, 0}, [2]int{0, 0}, [][2]int{{0, 0}}},
		{[2]int{63, 63}, [2]int{63, 63}, [][2]int{{63, 63}}},
		{[2]int{4, 7}, [2]int{6, 7}, [][2]int{{4, 7}, {5, 7}, {6, 7}}}, // level
		{[2]int{6, 7}, [2]int{4, 7}, [][2]int{{6, 7}, {5, 7}, {4, 7}}},
		{[2]int{4, 7}, [2]int{4, 9}, [][2]int{{4, 7}, {4, 8}, {4, 9}}}, // upright
		{[2]int{4, 9}, [2]int{4, 7}, [][2]int{{4, 9}, {4, 8}, {4, 7}}},
		{[2]int{4, 7}, [2]int{6, 9}, [][2]int{{4, 7}, {5, 8}, {6, 9}}}, // aslant
		{[2]int{6, 9}, [2]int{4, 7}, [][2]int{{6, 9}, {5, 8}, {4, 7}}},
		{[2]int{4, 9}, [2]int{6, 7}, [][2]int{{4, 9}, {5, 8}, {6, 7}}},
		{[2]int{6, 7}, [2]int{4, 9}, [][2]int{{6, 7}, {5, 8}, {4, 9}}},
		{[2]int{0, 0}, [2]int{2, 1}, [][2]int{{0, 0}, {1, 1}, {2, 1}}}, // just between two cells: the greater one
		{[2]int{0, 1}, [2]int{2, 0}, [][2]int{{0, 1}, {1, 1}, {2, 0}}},
		{[2]int{2, 1}, [2]int{0, 0}, [][2]int{{2, 1}, {1, 1}, {0, 0}}},
		{[2]int{2, 0}, [2]int{0, 1}, [][2]int{{2, 0}, {1, 1}, {0, 1}}},
		{[2]int{0, 0}, [2]int{1, 2}, [][2]int{{0, 0}, {1, 1}, {1, 2}}},
		{[2]int{1, 0}, [2]int{0, 2}, [][2]int{{1, 0}, {1, 1}, {0, 2}}},
		{[2]int{1, 5}, [2]int{0, 0}, [][2]int{{1, 5}, {1, 4}, {1, 3}, {0, 2}, {0, 1}, {0, 0}}}, // steep
		{[2]int{0, 5}, [2]int{1, 0}, [][2]int{{0, 5}, {0, 4}, {0, 3}, {1, 2}, {1, 1}, {1, 0}}},
		{[2]int{5, 1}, [2]int{0, 0}, [][2]int{{5, 1}, {4, 1}, {3, 1}, {2, 0}, {1, 0}, {0, 0}}}, // shallow
		{[2]int{60, 63}, [2]int{63, 61}, [][2]int{{60, 63}, {61, 62}, {62, 62}, {63, 61}}},
	} {
		if cells := line(t, c.from, c.to); !slices.Equal(cells, c.want) {
			t.Errorf("Line from %v to %v: %v, want %v", c.from, c.to, cells, c.want)
		}
	}
}

// each calls for lines of every length, direction and steepness, each of them at both ends of where it has room.
func each(visit func(from, to [2]int)) {
	spread := func(d int) (least, most int) { return max(0, -d), 63 - max(0, d) }
	for x := -63; x <= 63; x++ {
		for y := -63; y <= 63; y++ {
			left, right := spread(x)
			low, top := spread(y)
			for _, from := range [][2]int{{left, low}, {right, low}, {left, top}, {right, top}, {(left + right) / 2, (low + top) / 2}} {
				visit(from, [2]int{from[0] + x, from[1] + y})
			}
		}
	}
}

func TestLinesOfEveryDirection(t *testing.T) { // P8.1
	lines, longest := 0, 0
	each(func(from, to [2]int) {
		cells := line(t, from, to)
		n := max(abs(to[0]-from[0]), abs(to[1]-from[1]))
		if len(cells) != n+1 {
			t.Fatalf("Line from %v to %v: %d cells, want %d", from, to, len(cells), n+1)
		}
		for q, cell := range cells {
			for c := range cell {
				// Rounded down: the quotient is at most what it is of, and one more would be above.
				moved, of := cell[c]-from[c], 2*q*(to[c]-from[c])+n
				if n > 0 && (2*n*moved > of || of >= 2*n*(moved+1)) {
					t.Fatalf("Line from %v to %v: cell %d is %v", from, to, q, cell)
				}
			}
		}
		if n == 0 && cells[0] != from {
			t.Fatalf("Line from %v to itself: %v", from, cells)
		}
		lines, longest = lines+1, max(longest, len(cells))
	})
	if lines != 127*127*5 || longest != 64 {
		t.Errorf("%d lines, the longest of %d cells", lines, longest)
	}
}

func TestLinesOfAllPairs(t *testing.T) { // P8.1
	const side = 12
	for n := range side * side * side * side {
		from, to := [2]int{n % side, n / side % side}, [2]int{n / side / side % side, n / side / side / side}
		if cells := line(t, from, to); !slices.Equal(cells, lineOf(from, to)) {
			t.Fatalf("Line from %v to %v: %v, want %v", from, to, cells, lineOf(from, to))
		}
	}
}

func TestLongestLines(t *testing.T) { // P8.1
	for k := range 64 {
		for _, c := range [][2][2]int{
			{{0, 0}, {63, k}}, {{0, 0}, {k, 63}}, {{63, 63}, {0, k}}, {{63, 63}, {k, 0}},
			{{0, 63}, {63, k}}, {{0, 63}, {k, 0}}, {{63, 0}, {0, k}}, {{63, 0}, {k, 63}},
		} {
			if cells := line(t, c[0], c[1]); len(cells) != 64 || !slices.Equal(cells, lineOf(c[0], c[1])) {
				t.Errorf("Line from %v to %v: %v", c[0], c[1], cells)
			}
		}
	}
}

func TestLineOfWrongNumbers(t *testing.T) { // P8.1 with R2, R5
	for _, no := range []int{-1, 64, -2, 65, -64, 255, 1 << 32, -1 << 32, math.MinInt, math.MinInt + 1, math.MaxInt, math.MaxInt - 1} {
		for mask := 1; mask < 16; mask++ {
			for _, yes := range []int{0, 17, 63} {
				n := [4]int{yes, yes, yes, yes}
				for c := range n {
					if mask>>c&1 == 1 {
						n[c] = no
					}
				}
				if cells, e := ray.Line(n[0], n[1], n[2], n[3]); len(cells) != 0 || e != api.ErrRange {
					t.Errorf("Line of %v: %v, %d", n, cells, e)
				}
			}
		}
	}
}

func TestLineIsNewMemory(t *testing.T) { // P8.1 with R3
	for _, to := range [][2]int{{3, 1}, {0, 0}, {63, 63}} {
		first := line(t, [2]int{0, 0}, to)
		want := slices.Clone(first)
		for q := range first {
			first[q] = [2]int{-q, 1000}
		}
		again := line(t, [2]int{0, 0}, to)
		if !slices.Equal(again, want) {
			t.Errorf("what was done with a line is in the next one: %v", again)
		}
		for q := range first {
			if first[q] != [2]int{-q, 1000} {
				t.Errorf("a later call wrote into a line: %v", first)
			}
		}
	}
}

func TestEndsAndStepsOfLines(t *testing.T) { // P8.5
	each(func(from, to [2]int) {
		cells := line(t, from, to)
		if len(cells) == 0 || cells[0] != from || cells[len(cells)-1] != to {
			t.Fatalf("Line from %v to %v: %v", from, to, cells)
		}
		for q := 1; q < len(cells); q++ {
			x, y := cells[q][0]-cells[q-1][0], cells[q][1]-cells[q-1][1]
			if max(abs(x), abs(y)) > 1 {
				t.Fatalf("Line from %v to %v: %v behind %v", from, to, cells[q], cells[q-1])
			}
		}
	})
}
