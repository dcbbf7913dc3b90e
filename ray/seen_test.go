package ray_test

import (
	"math"
	"slices"
	"testing"

	"bivouac/api"
	"bivouac/ray"
)

func seen(t *testing.T, m api.Map, from [2]int, high, radius int) []bool {
	t.Helper()
	list, e := ray.Seen(m, from, high, radius)
	if e != api.OK || len(list) != m.W*m.H {
		t.Fatalf("Seen on %d by %d from %v at %d, radius %d: %d cells, %d", m.W, m.H, from, high, radius, len(list), e)
	}
	return list
}

// seenOf is each cell's answer by the chapter's words.
func seenOf(m api.Map, from [2]int, high, radius int) []bool {
	list := make([]bool, m.W*m.H)
	for j := range m.H {
		for i := range m.W {
			far := (i-from[0])*(i-from[0]) + (j-from[1])*(j-from[1])
			list[m.W*j+i] = far <= radius*radius && seesOf(m, from, [2]int{i, j}, high, 0)
		}
	}
	return list
}

// numbers are those of the cells that are seen.
func numbers(list []bool) []int {
	var cells []int
	for n, is := range list {
		if is {
			cells = append(cells, n)
		}
	}
	return cells
}

func TestSeen(t *testing.T) { // P8.4
	needle := raised(flat(3, 1, 0), 1, 0, 9)
	wall := shaped(7, 3, func(i, j int) int { return i / 3 % 2 * 40 }) // the tops of the cells at i = 2 to 5
	for _, c := range []struct {
		m            api.Map
		from         [2]int
		high, radius int
		want         []int
	}{
		{needle, [2]int{0, 0}, 0, 2, []int{0, 1}},
		{needle, [2]int{0, 0}, 17, 2, []int{0, 1}},
		{needle, [2]int{0, 0}, 18, 2, []int{0, 1, 2}},
		{needle, [2]int{0, 0}, 18, 1, []int{0, 1}},
		{needle, [2]int{0, 0}, 255, 0, []int{0}},
		{needle, [2]int{2, 0}, 0, 64, []int{1, 2}},
		{flat(1, 1, 255), [2]int{0, 0}, 0, 0, []int{0}},
		{flat(1, 1, 0), [2]int{0, 0}, 255, 64, []int{0}},
		{flat(3, 3, 5), [2]int{1, 1}, 0, 1, []int{1, 3, 4, 5, 7}}, // a corner is farther than 1
		{flat(3, 3, 5), [2]int{1, 1}, 0, 2, []int{0, 1, 2, 3, 4, 5, 6, 7, 8}},
		{flat(3, 3, 5), [2]int{0, 0}, 0, 2, []int{0, 1, 2, 3, 4, 6}},
		{flat(3, 2, 5), [2]int{2, 1}, 0, 1, []int{2, 4, 5}}, // W is not H: the number is 3 j + i
		{flat(2, 3, 5), [2]int{1, 2}, 0, 1, []int{3, 4, 5}},
		{flat(6, 5, 5), [2]int{0, 0}, 0, 5, []int{0, 1, 2, 3, 4, 5, 6, 7, 8, 9, 10, 12, 13, 14, 15, 16, 18, 19, 20, 21, 22, 24, 25, 26, 27}}, // 3, 4 and 4, 3 are just at 5
		{wall, [2]int{0, 0}, 0, 64, []int{0, 1, 2, 7, 8, 9, 14, 15, 16}},
	} {
		if cells := numbers(seen(t, c.m, c.from, c.high, c.radius)); !slices.Equal(cells, c.want) {
			t.Errorf("Seen on %d by %d from %v at %d, radius %d: %v, want %v", c.m.W, c.m.H, c.from, c.high, c.radius, cells, c.want)
		}
	}
}

// places are the ends and the middle of a map.
func places(m api.Map) [][2]int {
	list := [][2]int{{0, 0}, {m.W - 1, 0}, {0, m.H - 1}, {m.W - 1, m.H - 1}, {m.W / 2, m.H / 2}, {m.W / 3, m.H / 4}}
	slices.SortFunc(list, func(a, b [2]int) int { return slices.Compare(a[:], b[:]) })
	return slices.Compact(list)
}

func TestSeenOnManyMaps(t *testing.T) { // P8.4
	for k, m := range maps() {
		for p, from := range places(m) {
			for r, radius := range []int{0, 1, 2, 5, 20, 63, 64} {
				high := []int{0, 1, 4, 30, 255}[(k+p+r)%5]
				if list := seen(t, m, from, high, radius); !slices.Equal(list, seenOf(m, from, high, radius)) {
					t.Errorf("map %d: Seen from %v at %d, radius %d: %v, want %v", k, from, high, radius, numbers(list), numbers(seenOf(m, from, high, radius)))
				}
			}
		}
	}
}

func TestRadii(t *testing.T) { // P8.4
	m := flat(64, 64, 77)
	for radius := range 65 {
		for _, from := range places(m) {
			for n, is := range seen(t, m, from, 0, radius) {
				x, y := float64(n%64-from[0]), float64(n/64-from[1])
				if is != (math.Sqrt(x*x+y*y) <= float64(radius)) { // of whole squares this root is exact, and of others far enough
					t.Fatalf("Seen from %v, radius %d: cell %d: %t", from, radius, n, is)
				}
			}
		}
	}
}

func TestSeenOfEveryCell(t *testing.T) { // P8.4
	for _, m := range []api.Map{hill(9, 6), waves(7, 11), rough(3, 12, 8, 6), rough(4, 1, 40, 9), rough(5, 40, 1, 9)} {
		for n := range m.W * m.H {
			from := [2]int{n % m.W, n / m.W}
			for _, high := range []int{0, 2, 11, 254} {
				for _, radius := range []int{0, 3, 64} {
					if list := seen(t, m, from, high, radius); !slices.Equal(list, seenOf(m, from, high, radius)) {
						t.Fatalf("%d by %d: Seen from %v at %d, radius %d: %v", m.W, m.H, from, high, radius, numbers(list))
					}
				}
			}
		}
	}
}

func TestSeenOfWrongArguments(t *testing.T) { // P8.4 with R2, R5
	refused := func(m api.Map, from [2]int, high, radius int, want api.Errno) {
		if list, e := ray.Seen(m, from, high, radius); len(list) != 0 || e != want {
			t.Errorf("Seen on %d by %d, %d corners, from %v at %d, radius %d: %d cells, %d, want %d", m.W, m.H, len(m.Corners), from, high, radius, len(list), e, want)
		}
	}
	noRadii := []int{-1, 65, -64, 255, 1 << 32, -1 << 32, math.MinInt, math.MaxInt}
	for _, s := range sides {
		m := flat(s[0], s[1], 9)
		last := [2]int{m.W - 1, m.H - 1}
		for _, no := range noHeights {
			refused(m, last, no, 1, api.ErrArg)
			refused(m, [2]int{-1, 0}, no, 1, api.ErrArg) // of several errors the first one
			refused(m, last, no, 65, api.ErrArg)
		}
		for _, no := range noRadii {
			refused(m, last, 0, no, api.ErrArg)
			refused(m, last, 255, no, api.ErrArg)
			refused(m, [2]int{0, m.H}, 0, no, api.ErrArg)
		}
		for _, no := range beside(m) {
			refused(m, no, 0, 0, api.ErrRange)
			refused(m, no, 255, 64, api.ErrRange)
			refused(m, no, 256, 64, api.ErrArg)
			refused(m, no, 255, 65, api.ErrArg)
		}
		for _, radius := range []int{0, 64} {
			for _, high := range []int{0, 255} {
				if list := seen(t, m, last, high, radius); !list[len(list)-1] {
					t.Errorf("Seen on %d by %d at %d, radius %d: not its own cell", m.W, m.H, high, radius)
				}
			}
		}
	}
	for _, m := range wrong() {
		for _, at := range append(beside(m), [2]int{0, 0}) {
			refused(m, at, 0, 0, api.ErrArg)
			refused(m, at, 255, 64, api.ErrArg)
			refused(m, at, -1, 65, api.ErrArg)
		}
	}
}

func TestSeenIsNewMemory(t *testing.T) { // P8.4 with R3
	m := waves(9, 7)
	from := [2]int{4, 3}
	first := seen(t, m, from, 2, 64)
	want := slices.Clone(first)
	for n := range first {
		first[n] = !first[n]
	}
	again := seen(t, m, from, 2, 64)
	if !slices.Equal(again, want) {
		t.Errorf("what was done with a result is in the next one: %v", again)
	}
	for n := range first {
		if first[n] == want[n] {
			t.Errorf("a later call wrote into a result: %v", first)
		}
	}
	clear(m.Corners) // the map is flat now
	if !slices.Equal(again, want) {
		t.Errorf("a result hangs on the map")
	}
	if list := seen(t, m, from, 2, 64); slices.Contains(list, false) {
		t.Errorf("the map as it was is kept: %v", list)
	}
}

func TestHigherEyesDoNotSeeLess(t *testing.T) { // P8.5
	for k, m := range maps() {
		for _, from := range places(m)[:1+k%2] {
			before := make([]bool, m.W*m.H)
			for high := 0; high < 256; high += 1 + high/16 {
				now := seen(t, m, from, high, 64)
				for n := range now {
					if before[n] && !now[n] {
						t.Fatalf("map %d: from %v cell %d is seen below %d, and not there", k, from, n, high)
					}
				}
				before = now
			}
		}
		from, to := [2]int{0, 0}, [2]int{m.W - 1, m.H - 1}
		for fixed := range 4 {
			for high := range 255 {
				if sees(t, m, from, to, high, 20*fixed) && !sees(t, m, from, to, high+1, 20*fixed) {
					t.Fatalf("map %d: the eye at %d sees what the one above it does not", k, high)
				}
				if sees(t, m, from, to, 20*fixed, high) && !sees(t, m, from, to, 20*fixed, high+1) {
					t.Fatalf("map %d: the eye at %d is seen, and the one above it is not", k, high)
				}
			}
		}
	}
}
