package ray_test

import (
	"bytes"
	"math"
	"math/rand"
	"slices"
	"testing"

	"bivouac/api"
	"bivouac/ray"
)

func TestTopAndFloor(t *testing.T) { // P8.2
	for _, c := range []struct {
		corners    [4]byte
		top, floor int
	}{
		{[4]byte{0, 0, 0, 0}, 0, 0},
		{[4]byte{255, 255, 255, 255}, 255, 255},
		{[4]byte{7, 7, 7, 7}, 7, 7},
		{[4]byte{9, 5, 5, 5}, 9, 5}, // one above the others
		{[4]byte{5, 9, 5, 5}, 9, 5},
		{[4]byte{5, 5, 9, 5}, 9, 5},
		{[4]byte{5, 5, 5, 9}, 9, 5},
		{[4]byte{1, 5, 5, 5}, 5, 1}, // one below them
		{[4]byte{5, 1, 5, 5}, 5, 1},
		{[4]byte{5, 5, 1, 5}, 5, 1},
		{[4]byte{5, 5, 5, 1}, 5, 1},
		{[4]byte{0, 10, 20, 255}, 255, 0},
		{[4]byte{255, 20, 10, 0}, 255, 0},
		{[4]byte{10, 255, 0, 20}, 255, 0},
		{[4]byte{20, 0, 255, 10}, 255, 0},
		{[4]byte{127, 128, 127, 128}, 128, 127},
	} {
		m := api.Map{W: 1, H: 1, Water: 100, Corners: c.corners[:]}
		if top, e := ray.Top(m, 0, 0); top != c.top || e != api.OK {
			t.Errorf("Top of %v: %d, %d, want %d", c.corners, top, e, c.top)
		}
		if floor, e := ray.Floor(m, 0, 0); floor != c.floor || e != api.OK {
			t.Errorf("Floor of %v: %d, %d, want %d", c.corners, floor, e, c.floor)
		}
	}
}

func TestTopsAndFloorsOfMaps(t *testing.T) { // P8.2
	for k, m := range maps() {
		for n := range m.W * m.H {
			cell := [2]int{n % m.W, n / m.W}
			if top, e := ray.Top(m, cell[0], cell[1]); top != topOf(m, cell) || e != api.OK {
				t.Errorf("map %d: Top of %v: %d, %d, want %d", k, cell, top, e, topOf(m, cell))
			}
			if floor, e := ray.Floor(m, cell[0], cell[1]); floor != floorOf(m, cell) || e != api.OK {
				t.Errorf("map %d: Floor of %v: %d, %d, want %d", k, cell, floor, e, floorOf(m, cell))
			}
		}
	}
}

func TestTopAndFloorOfNothing(t *testing.T) { // P8.2 with R2, R5
	refused := func(m api.Map, i, j int, want api.Errno) {
		if top, e := ray.Top(m, i, j); top != 0 || e != want {
			t.Errorf("Top of %d by %d, %d corners, at %d, %d: %d, %d, want %d", m.W, m.H, len(m.Corners), i, j, top, e, want)
		}
		if floor, e := ray.Floor(m, i, j); floor != 0 || e != want {
			t.Errorf("Floor of %d by %d, %d corners, at %d, %d: %d, %d, want %d", m.W, m.H, len(m.Corners), i, j, floor, e, want)
		}
	}
	for _, s := range sides {
		m := flat(s[0], s[1], 9)
		for _, cell := range beside(m) {
			refused(m, cell[0], cell[1], api.ErrRange)
		}
	}
	for _, m := range wrong() {
		refused(m, 0, 0, api.ErrArg)
		for _, cell := range beside(m) {
			refused(m, cell[0], cell[1], api.ErrArg)
		}
	}
}

func sees(t *testing.T, m api.Map, from, to [2]int, high, low int) bool {
	t.Helper()
	is, e := ray.Sees(m, from, to, high, low)
	if e != api.OK {
		t.Fatalf("Sees on %d by %d from %v to %v at %d, %d: %d", m.W, m.H, from, to, high, low, e)
	}
	return is
}

func TestSees(t *testing.T) { // P8.3
	needle := raised(flat(3, 1, 0), 1, 0, 9) // the chapter's example
	middle := raised(raised(flat(5, 1, 10), 2, 0, 20), 3, 1, 20)
	stairs := shaped(5, 1, func(i, j int) int { return 10 * i })
	for _, c := range []struct {
		m         api.Map
		from, to  [2]int
		high, low int
		want      bool
	}{
		{needle, [2]int{0, 0}, [2]int{2, 0}, 0, 0, false},
		{needle, [2]int{0, 0}, [2]int{2, 0}, 9, 9, true},
		{needle, [2]int{2, 0}, [2]int{0, 0}, 0, 0, false},
		{needle, [2]int{2, 0}, [2]int{0, 0}, 9, 9, true},
		{needle, [2]int{0, 0}, [2]int{2, 0}, 9, 8, false},
		{needle, [2]int{0, 0}, [2]int{2, 0}, 18, 0, true},
		{needle, [2]int{0, 0}, [2]int{2, 0}, 17, 0, false},
		{needle, [2]int{0, 0}, [2]int{2, 0}, 0, 18, true},
		{needle, [2]int{0, 0}, [2]int{2, 0}, 0, 17, false},
		{needle, [2]int{0, 0}, [2]int{0, 0}, 0, 0, true}, // a cell and itself
		{needle, [2]int{1, 0}, [2]int{1, 0}, 255, 255, true},
		{needle, [2]int{0, 0}, [2]int{1, 0}, 0, 0, true}, // neighbors
		{needle, [2]int{1, 0}, [2]int{2, 0}, 0, 0, true},
		{middle, [2]int{0, 0}, [2]int{4, 0}, 9, 9, false},
		{middle, [2]int{0, 0}, [2]int{4, 0}, 10, 10, true},
		{middle, [2]int{0, 0}, [2]int{4, 0}, 0, 39, false}, // of the hill's two sides the near one
		{middle, [2]int{0, 0}, [2]int{4, 0}, 0, 40, true},
		{middle, [2]int{0, 0}, [2]int{4, 0}, 10, 9, false},
		{middle, [2]int{0, 0}, [2]int{4, 0}, 4, 28, true},
		{middle, [2]int{0, 0}, [2]int{4, 0}, 4, 27, false},
		{middle, [2]int{4, 0}, [2]int{0, 0}, 27, 4, false},
		{middle, [2]int{4, 0}, [2]int{0, 0}, 28, 4, true},
		{stairs, [2]int{0, 0}, [2]int{4, 0}, 10, 10, true}, // up
		{stairs, [2]int{0, 0}, [2]int{4, 0}, 9, 10, false},
		{stairs, [2]int{0, 0}, [2]int{4, 0}, 10, 9, false},
		{stairs, [2]int{4, 0}, [2]int{0, 0}, 10, 10, true}, // down
		{stairs, [2]int{4, 0}, [2]int{0, 0}, 10, 9, false},
		{stairs, [2]int{4, 0}, [2]int{0, 0}, 9, 10, false},
	} {
		if is := sees(t, c.m, c.from, c.to, c.high, c.low); is != c.want {
			t.Errorf("Sees on %v from %v to %v at %d, %d: %t", c.m.Corners, c.from, c.to, c.high, c.low, is)
		}
	}
}

// On the diagonal the corner (q, q + 1) touches the cell (q, q) alone: just this cell may block.
func TestHeightsThatJustSuffice(t *testing.T) { // P8.3
	exact := 0
	for n := 2; n <= 63; n++ {
		for _, q := range []int{1, 2, n / 3, n / 2, n - 2, n - 1} {
			if q < 1 || q >= n {
				continue
			}
			for _, base := range []int{0, 30} {
				for _, top := range []int{1, 9, 77, 200} {
					m := raised(flat(n+1, n+1, base), q, q+1, base+top)
					for _, high := range []int{0, 1, top / 2, top - 1, top, top + 1} {
						exact += justSuffices(t, m, n, q, top, high)
					}
				}
			}
		}
	}
	if exact < 1000 {
		t.Errorf("just %d heights at which both sides are the same", exact)
	}
}

// justSuffices asks at the lowest height of the other eye that should do, and at one less and one more;
// it answers 1 where that height is met without a rest.
func justSuffices(t *testing.T, m api.Map, n, q, top, high int) int {
	need := max(0, top*n-high*(n-q))
	low := (need + q - 1) / q
	from, to := [2]int{0, 0}, [2]int{n, n}
	for _, l := range []int{low - 1, low, low + 1} {
		if l < 0 || l > 255 {
			continue
		}
		if is := sees(t, m, from, to, high, l); is != (l >= low) {
			t.Errorf("Sees over %d at cell %d of %d, from %d to %d: %t", top, q, n, high, l, is)
		}
		if is := sees(t, m, to, from, l, high); is != (l >= low) {
			t.Errorf("Sees over %d at cell %d of %d, back from %d to %d: %t", top, q, n, l, high, is)
		}
	}
	if low <= 255 && low > 0 && need%q == 0 {
		return 1
	}
	return 0
}

func TestFirstAndLastCellNeverBlock(t *testing.T) { // P8.3
	for _, n := range []int{1, 2, 3, 10, 63} {
		far := [2]int{n, n}
		m := raised(raised(flat(n+1, n+1, 0), 0, 0, 255), n+1, n+1, 255)
		if !sees(t, m, [2]int{0, 0}, far, 0, 0) || !sees(t, m, far, [2]int{0, 0}, 0, 0) {
			t.Errorf("the first or the last cell of %d blocks", n+1)
		}
		row := shaped(n+1, 1, func(i, j int) int { return 255 * (1 - min(1, i*(n+1-i))) })
		if !sees(t, row, [2]int{0, 0}, [2]int{n, 0}, 0, 0) || !sees(t, row, [2]int{n, 0}, [2]int{0, 0}, 0, 0) {
			t.Errorf("the first or the last cell of a row of %d blocks", n+1)
		}
		column := shaped(1, n+1, func(i, j int) int { return 255 * (1 - min(1, j*(n+1-j))) })
		if !sees(t, column, [2]int{0, 0}, [2]int{0, n}, 0, 0) || !sees(t, column, [2]int{0, n}, [2]int{0, 0}, 0, 0) {
			t.Errorf("the first or the last cell of a column of %d blocks", n+1)
		}
	}
}

func TestSeesOnManyMaps(t *testing.T) { // P8.3
	r := rand.New(rand.NewSource(8))
	var answers [2]int
	for k, m := range maps() {
		cell := func() [2]int { return [2]int{r.Intn(m.W), r.Intn(m.H)} }
		for range 3000 {
			from, to := cell(), cell()
			high, low := []int{0, r.Intn(12), r.Intn(256), 255}[r.Intn(4)], []int{0, r.Intn(12), r.Intn(256), 255}[r.Intn(4)]
			want := seesOf(m, from, to, high, low)
			if is := sees(t, m, from, to, high, low); is != want {
				t.Fatalf("map %d: Sees from %v to %v at %d, %d: %t", k, from, to, high, low, is)
			}
			if is, want := sees(t, m, to, from, low, high), seesOf(m, to, from, low, high); is != want {
				t.Fatalf("map %d: Sees from %v to %v at %d, %d: %t", k, to, from, low, high, is)
			}
			if want {
				answers[1]++
			} else {
				answers[0]++
			}
		}
	}
	if answers[0] < 20000 || answers[1] < 20000 {
		t.Errorf("too few of one answer: %v", answers)
	}
}

func TestSeesOfAllPairs(t *testing.T) { // P8.3
	for _, m := range []api.Map{hill(7, 5), bowl(6, 6), waves(8, 4), rough(1, 6, 6, 9), rough(2, 9, 3, 60), slope(1, 9)} {
		for a := range m.W * m.H {
			for b := range m.W * m.H {
				from, to := [2]int{a % m.W, a / m.W}, [2]int{b % m.W, b / m.W}
				for _, h := range [][2]int{{0, 0}, {0, 3}, {3, 0}, {7, 8}, {40, 0}, {0, 41}, {255, 255}} {
					if is := sees(t, m, from, to, h[0], h[1]); is != seesOf(m, from, to, h[0], h[1]) {
						t.Fatalf("%d by %d: Sees from %v to %v at %v: %t", m.W, m.H, from, to, h, is)
					}
				}
			}
		}
	}
}

// noHeights are not from 0 to 255.
var noHeights = []int{-1, 256, -255, 257, 1 << 32, -1 << 32, math.MinInt, math.MaxInt}

func TestSeesOfWrongArguments(t *testing.T) { // P8.3 with R2, R5
	refused := func(m api.Map, from, to [2]int, high, low int, want api.Errno) {
		if is, e := ray.Sees(m, from, to, high, low); is || e != want {
			t.Errorf("Sees on %d by %d, %d corners, from %v to %v at %d, %d: %t, %d, want %d", m.W, m.H, len(m.Corners), from, to, high, low, is, e, want)
		}
	}
	for _, s := range sides {
		m := flat(s[0], s[1], 9)
		cells := [][2]int{{0, 0}, {m.W - 1, m.H - 1}}
		for _, at := range cells {
			for _, no := range noHeights {
				refused(m, at, cells[0], no, 0, api.ErrArg)
				refused(m, at, cells[1], 0, no, api.ErrArg)
				refused(m, at, at, 255, no, api.ErrArg)
				refused(m, at, at, no, no, api.ErrArg)
			}
			for _, no := range beside(m) {
				for _, high := range []int{0, 255} {
					refused(m, at, no, high, 0, api.ErrRange)
					refused(m, no, at, 0, high, api.ErrRange)
					refused(m, no, no, high, high, api.ErrRange)
				}
				refused(m, at, no, -1, 0, api.ErrArg) // of several errors the first one
				refused(m, no, at, 0, 256, api.ErrArg)
				refused(m, no, no, math.MinInt, math.MaxInt, api.ErrArg)
			}
		}
		for _, at := range cells {
			if !sees(t, m, at, at, 0, 255) || !sees(t, m, at, cells[1], 255, 0) {
				t.Errorf("Sees on %d by %d at 0 and 255: false", m.W, m.H)
			}
		}
	}
	for _, m := range wrong() {
		for _, at := range append(beside(m), [2]int{0, 0}) {
			refused(m, at, at, 0, 0, api.ErrArg)
			refused(m, at, [2]int{0, 0}, 255, 255, api.ErrArg)
			refused(m, [2]int{0, 0}, at, -1, 256, api.ErrArg)
		}
	}
}

func TestArgumentsStayAsTheyAre(t *testing.T) { // R3
	for _, m := range maps() {
		room := append(slices.Clone(m.Corners), 9, 9, 9, 9)
		before := slices.Clone(room)
		m.Corners = room[:len(m.Corners)]
		last := [2]int{m.W - 1, m.H - 1}
		ray.Top(m, 0, 0)
		ray.Floor(m, 0, 0)
		ray.Sees(m, [2]int{0, 0}, last, 3, 4)
		ray.Seen(m, last, 5, 64)
		if !bytes.Equal(room, before) {
			t.Errorf("the corners of %d by %d were changed", m.W, m.H)
		}
	}
}

func TestNeighborsSeeOneAnother(t *testing.T) { // P8.5
	for k, m := range maps() {
		for n := range m.W * m.H {
			from := [2]int{n % m.W, n / m.W}
			for _, to := range [][2]int{from, {from[0] + 1, from[1]}, {from[0], from[1] + 1}} {
				if to[0] < m.W && to[1] < m.H && !(sees(t, m, from, to, 0, 0) && sees(t, m, to, from, 0, 0)) {
					t.Errorf("map %d: %v and %v do not see one another", k, from, to)
				}
			}
		}
	}
}
