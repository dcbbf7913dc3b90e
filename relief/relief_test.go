package relief_test

import (
	"bytes"
	"math"
	"math/big"
	"math/rand"
	"testing"

	"bivouac/api"
	"bivouac/relief"
)

const (
	one      = api.One
	half     = api.One / 2
	least    = math.MinInt64
	greatest = math.MaxInt64
)

// example is the chapter's map.
func example() api.Map { return api.Map{W: 1, H: 1, Water: 5, Corners: []byte{0, 10, 20, 30}} }

// flat is a map of one height.
func flat(w, h, water int, height byte) api.Map {
	return api.Map{W: w, H: h, Water: water, Corners: bytes.Repeat([]byte{height}, (w+1)*(h+1))}
}

// rough is a map of heights of every size, the least and the greatest among them.
func rough(seed int64, w, h, water int) api.Map {
	r := rand.New(rand.NewSource(seed))
	m := flat(w, h, water, 0)
	for k := range m.Corners {
		m.Corners[k] = []byte{0, 255, byte(r.Intn(256)), byte(r.Intn(256))}[r.Intn(4)]
	}
	return m
}

// maps are valid ones, of the least and the greatest sides.
func maps() []api.Map {
	list := []api.Map{example(), flat(1, 1, 0, 0), flat(1, 1, 255, 255), flat(64, 64, 128, 255), flat(3, 2, 100, 100)}
	for k, side := range [][2]int{{1, 1}, {1, 2}, {2, 1}, {2, 3}, {5, 4}, {1, 64}, {64, 1}, {63, 17}, {64, 64}} {
		list = append(list, rough(int64(k), side[0], side[1], 31*k))
	}
	return list
}

// wrong are maps that are not valid, with the error of Check.
func wrong() []wrongMap {
	long := make([]byte, 66*66)
	of := func(w, h, water, corners int) api.Map {
		return api.Map{W: w, H: h, Water: water, Corners: long[:corners]}
	}
	return []wrongMap{
		{api.Map{}, api.ErrArg},
		{of(0, 1, 0, 2), api.ErrArg},
		{of(1, 0, 0, 2), api.ErrArg},
		{of(-1, 1, 0, 0), api.ErrArg},
		{of(1, -1, 0, 0), api.ErrArg},
		{of(-2, -2, 0, 1), api.ErrArg},
		{of(-3, -3, 0, 4), api.ErrArg}, // the product of the sides would be right
		{of(65, 1, 0, 132), api.ErrArg},
		{of(1, 65, 0, 132), api.ErrArg},
		{of(65, 65, 0, 66*66), api.ErrArg},
		{of(math.MinInt, 1, 0, 4), api.ErrArg},
		{of(1, math.MinInt, 0, 4), api.ErrArg},
		{of(math.MaxInt, 1, 0, 4), api.ErrArg},
		{of(1, math.MaxInt, 0, 4), api.ErrArg},
		{of(math.MaxInt, math.MaxInt, 0, 0), api.ErrArg}, // (W + 1)(H + 1) would wrap around to 0
		{of(1<<32-1, 1<<32-1, 0, 0), api.ErrArg},
		{of(1, 1, -1, 4), api.ErrArg},
		{of(1, 1, 256, 4), api.ErrArg},
		{of(1, 1, math.MinInt, 4), api.ErrArg},
		{of(1, 1, math.MaxInt, 4), api.ErrArg},
		{of(1, 1, 256, 3), api.ErrArg}, // of several errors the first one
		{of(0, 1, 0, 0), api.ErrArg},
		{of(0, 1, 0, 9), api.ErrArg},
		{of(65, 1, -1, 9), api.ErrArg},
		{of(1, 1, 5, 3), api.ErrShort},
		{of(1, 1, 5, 0), api.ErrShort},
		{of(2, 3, 5, 11), api.ErrShort},
		{of(64, 64, 255, 65*65-1), api.ErrShort},
		{of(1, 1, 5, 5), api.ErrExtra},
		{of(2, 3, 5, 13), api.ErrExtra},
		{of(3, 2, 5, 66*66), api.ErrExtra},
		{of(64, 64, 0, 65*65+1), api.ErrExtra},
	}
}

type wrongMap struct {
	m api.Map
	e api.Errno
}

func TestCheck(t *testing.T) { // P6.1
	for _, m := range maps() {
		if e := relief.Check(m); e != api.OK {
			t.Errorf("Check of %d by %d, water %d: %d", m.W, m.H, m.Water, e)
		}
	}
	for w := 1; w <= 64; w++ {
		for _, h := range []int{1, 2, 33, 64} {
			if e := relief.Check(flat(w, h, w, 7)); e != api.OK {
				t.Errorf("Check of %d by %d: %d", w, h, e)
			}
		}
	}
	for water := range 256 {
		if e := relief.Check(flat(1, 2, water, 7)); e != api.OK {
			t.Errorf("Check at water %d: %d", water, e)
		}
	}
	for _, c := range wrong() {
		if e := relief.Check(c.m); e != c.e {
			t.Errorf("Check of %d by %d, water %d, %d corners: %d, want %d", c.m.W, c.m.H, c.m.Water, len(c.m.Corners), e, c.e)
		}
	}
}

func TestMapsThatAreNotValid(t *testing.T) { // P6.1
	for _, c := range wrong() {
		m := c.m
		for _, at := range []int64{0, -1, half, one, least, greatest} {
			if relief.On(m, at, 0) || relief.On(m, 0, at) {
				t.Errorf("On of %v at %d: true", m, at)
			}
			if h, e := relief.Height(m, at, at); h != 0 || e != api.ErrArg {
				t.Errorf("Height of %v at %d: %d, %d", m, at, h, e)
			}
		}
		for _, i := range []int{0, -1, 1, 64, math.MinInt, math.MaxInt} {
			if s, e := relief.Slope(m, i, i); s != 0 || e != api.ErrArg {
				t.Errorf("Slope of %v at %d: %d, %d", m, i, s, e)
			}
			if d, e := relief.Depth(m, i, i); d != 0 || e != api.ErrArg {
				t.Errorf("Depth of %v at %d: %d, %d", m, i, d, e)
			}
		}
		if b := relief.Encode(m); len(b) != 0 {
			t.Errorf("Encode of %v: %v", m, b)
		}
	}
}

// heightOf follows the chapter's formula with unbounded integers.
func heightOf(m api.Map, x, y int64) int64 {
	i, j := x/one, y/one
	u, v := x%one, y%one
	corner := func(i, j int64) int64 { return int64(m.Corners[int64(m.W+1)*j+i]) }
	sum := new(big.Int)
	add := func(height, p, q int64) {
		term := big.NewInt(height)
		term.Mul(term, big.NewInt(p))
		sum.Add(sum, term.Mul(term, big.NewInt(q)))
	}
	add(corner(i, j), one-u, one-v)
	add(corner(i+1, j), u, one-v)
	add(corner(i, j+1), one-u, v)
	add(corner(i+1, j+1), u, v)
	return sum.Div(sum, big.NewInt(one)).Int64()
}

func TestOn(t *testing.T) { // P6.2
	for _, m := range maps() {
		right, top := int64(m.W)*one, int64(m.H)*one
		for _, x := range coordinates(right, top) {
			for _, y := range coordinates(right, top) {
				want := x >= 0 && x < right && y >= 0 && y < top
				if relief.On(m, x, y) != want {
					t.Errorf("On of %d by %d at %d, %d: %t", m.W, m.H, x, y, !want)
				}
				h, e := relief.Height(m, x, y)
				if !want && (h != 0 || e != api.ErrRange) {
					t.Errorf("Height of %d by %d at %d, %d: %d, %d", m.W, m.H, x, y, h, e)
				}
				if want && (h != heightOf(m, x, y) || e != api.OK) {
					t.Errorf("Height of %d by %d at %d, %d: %d, %d, want %d", m.W, m.H, x, y, h, e, heightOf(m, x, y))
				}
			}
		}
	}
}

// coordinates are the edges of a side, of the other one, and of what fits.
func coordinates(side, other int64) []int64 {
	list := []int64{least, least + 1, -side, -one, -2, -1, 0, 1, half, one - 1, one, 1 << 32, greatest - 1, greatest}
	for _, edge := range []int64{side, other, 64 * one} {
		list = append(list, edge-one, edge-half, edge-1, edge, edge+1)
	}
	return list
}

func TestHeight(t *testing.T) { // P6.2
	wide := api.Map{W: 2, H: 3, Water: 0, Corners: []byte{0, 1, 2, 10, 20, 40, 255, 0, 255, 3, 5, 7}}
	for _, c := range []struct {
		m       api.Map
		x, y    int64
		want    int64
		wantErr api.Errno
	}{
		{example(), half, half, 15 * one, api.OK}, // the chapter's examples
		{example(), 0, 0, 0, api.OK},
		{example(), one, 0, 0, api.ErrRange},
		{example(), 0, one, 0, api.ErrRange},
		{example(), -1, 0, 0, api.ErrRange},
		{example(), 0, -1, 0, api.ErrRange},
		{example(), one - 1, 0, 10*one - 10, api.OK},
		{example(), 0, one - 1, 20*one - 20, api.OK},
		{example(), one - 1, one - 1, 30*one - 30, api.OK},
		{wide, one, 0, one, api.OK},
		{wide, 0, one, 10 * one, api.OK},
		{wide, one, one, 20 * one, api.OK},
		{wide, one, 2 * one, 0, api.OK},
		{wide, 2*one - 1, 3*one - 1, 7*one + 245, api.OK}, // 7 wholes and 246 less 253 / 65536
		{wide, half, 2*one + half, 65*one + 3*one/4, api.OK},
		{flat(1, 1, 0, 255), one - 1, one - 1, 255 * one, api.OK},
		{flat(64, 64, 0, 255), 64*one - 1, 64*one - 1, 255 * one, api.OK},
		{flat(64, 64, 0, 255), 64 * one, 0, 0, api.ErrRange},
		{flat(64, 64, 0, 0), 64*one - 1, 0, 0, api.OK},
		{api.Map{W: 1, H: 1, Corners: []byte{0, 0, 0, 255}}, 255, 1, 0, api.OK}, // 65025 / 65536
		{api.Map{W: 1, H: 1, Corners: []byte{0, 0, 0, 255}}, 257, 1, 0, api.OK}, // 65535 / 65536
		{api.Map{W: 1, H: 1, Corners: []byte{0, 0, 0, 255}}, 258, 1, 1, api.OK},
		{api.Map{W: 1, H: 1, Corners: []byte{1, 0, 0, 0}}, 1, 1, one - 2, api.OK}, // 65534 and 1 / 65536
		{api.Map{W: 1, H: 1, Corners: []byte{1, 1, 0, 0}}, 1, 1, one - 1, api.OK},
		{api.Map{W: 1, H: 1, Corners: []byte{1, 0, 1, 0}}, 1, 1, one - 1, api.OK},
	} {
		h, e := relief.Height(c.m, c.x, c.y)
		if h != c.want || e != c.wantErr {
			t.Errorf("Height of %v at %d, %d: %d, %d, want %d, %d", c.m, c.x, c.y, h, e, c.want, c.wantErr)
		}
	}
}

func TestHeightsOfManyPositions(t *testing.T) { // P6.2, P6.5
	r := rand.New(rand.NewSource(6))
	for _, m := range maps() {
		for range 3000 {
			x, y := somewhere(r, m.W), somewhere(r, m.H)
			h, e := relief.Height(m, x, y)
			if want := heightOf(m, x, y); h != want || e != api.OK {
				t.Fatalf("Height of %d by %d at %d, %d: %d, %d, want %d", m.W, m.H, x, y, h, e, want)
			}
			low, high := extremes(m, int(x/one), int(y/one))
			if h < int64(low)*one || h > int64(high)*one {
				t.Fatalf("Height of %d by %d at %d, %d: %d is not from %d to %d wholes", m.W, m.H, x, y, h, low, high)
			}
		}
	}
}

// somewhere is a coordinate on a side, often beside a corner.
func somewhere(r *rand.Rand, cells int) int64 {
	part := []int64{0, 1, half, one - 1, r.Int63n(one), r.Int63n(one)}[r.Intn(6)]
	return r.Int63n(int64(cells))*one + part
}

// extremes are the least and the greatest corner of a cell.
func extremes(m api.Map, i, j int) (int, int) {
	low, high := 256, -1
	for _, by := range [][2]int{{0, 0}, {1, 0}, {0, 1}, {1, 1}} {
		h := int(m.Corners[(m.W+1)*(j+by[1])+i+by[0]])
		if h < low {
			low = h
		}
		if h > high {
			high = h
		}
	}
	return low, high
}

func TestHeightAtCorners(t *testing.T) { // P6.5
	for _, m := range maps() {
		for j := range m.H {
			for i := range m.W {
				want := int64(m.Corners[(m.W+1)*j+i]) * one
				if h, e := relief.Height(m, int64(i)*one, int64(j)*one); h != want || e != api.OK {
					t.Errorf("Height of %d by %d at the corner %d, %d: %d, %d, want %d", m.W, m.H, i, j, h, e, want)
				}
			}
		}
		for _, last := range [][2]int{{m.W, 0}, {0, m.H}, {m.W, m.H}} {
			if h, e := relief.Height(m, int64(last[0])*one, int64(last[1])*one); h != 0 || e != api.ErrRange {
				t.Errorf("Height of %d by %d at the corner %v: %d, %d", m.W, m.H, last, h, e)
			}
		}
	}
}

func TestSlopeAndDepthOfACell(t *testing.T) { // P6.3
	for _, c := range []struct {
		corners      []byte
		water        int
		slope, depth int
	}{
		{[]byte{0, 10, 20, 30}, 5, 30, 5}, // the chapter's example
		{[]byte{0, 0, 0, 0}, 0, 0, 0},
		{[]byte{0, 0, 0, 0}, 255, 0, 255},
		{[]byte{255, 255, 255, 255}, 255, 0, 0},
		{[]byte{255, 255, 255, 255}, 0, 0, 0},
		{[]byte{255, 255, 255, 255}, 254, 0, 0},
		{[]byte{0, 255, 255, 255}, 255, 255, 255}, // the least at each corner
		{[]byte{255, 0, 255, 255}, 255, 255, 255},
		{[]byte{255, 255, 0, 255}, 255, 255, 255},
		{[]byte{255, 255, 255, 0}, 255, 255, 255},
		{[]byte{255, 0, 0, 0}, 7, 255, 7}, // the greatest at each corner
		{[]byte{0, 255, 0, 0}, 7, 255, 7},
		{[]byte{0, 0, 255, 0}, 7, 255, 7},
		{[]byte{0, 0, 0, 255}, 7, 255, 7},
		{[]byte{9, 8, 7, 6}, 5, 3, 0}, // water below the floor, at it, and above
		{[]byte{9, 8, 7, 6}, 6, 3, 0},
		{[]byte{9, 8, 7, 6}, 7, 3, 1},
		{[]byte{9, 8, 7, 6}, 100, 3, 94},
		{[]byte{6, 9, 7, 8}, 0, 3, 0},
		{[]byte{7, 6, 9, 8}, 7, 3, 1},
		{[]byte{7, 8, 6, 9}, 7, 3, 1},
	} {
		m := api.Map{W: 1, H: 1, Water: c.water, Corners: c.corners}
		if s, e := relief.Slope(m, 0, 0); s != c.slope || e != api.OK {
			t.Errorf("Slope of %v: %d, %d, want %d", c.corners, s, e, c.slope)
		}
		if d, e := relief.Depth(m, 0, 0); d != c.depth || e != api.OK {
			t.Errorf("Depth of %v at water %d: %d, %d, want %d", c.corners, c.water, d, e, c.depth)
		}
	}
}

func TestSlopeAndDepthOfAllCells(t *testing.T) { // P6.3
	for _, m := range maps() {
		for j := range m.H {
			for i := range m.W {
				low, high := extremes(m, i, j)
				if s, e := relief.Slope(m, i, j); s != high-low || e != api.OK {
					t.Errorf("Slope of %d by %d at %d, %d: %d, %d, want %d", m.W, m.H, i, j, s, e, high-low)
				}
				depth := m.Water - low
				if depth < 0 {
					depth = 0
				}
				if d, e := relief.Depth(m, i, j); d != depth || e != api.OK {
					t.Errorf("Depth of %d by %d at %d, %d: %d, %d, want %d", m.W, m.H, i, j, d, e, depth)
				}
			}
		}
	}
}

func TestNoSuchCell(t *testing.T) { // P6.3
	for _, m := range maps() {
		for _, c := range [][2]int{
			{-1, 0}, {0, -1}, {-1, -1}, {m.W, 0}, {0, m.H}, {m.W, m.H}, {m.W - 1, m.H}, {m.W, m.H - 1},
			{-1, m.H - 1}, {m.W - 1, -1}, {m.W, -1}, {-1, m.H}, {m.W + 1, 0}, {0, m.H + 1},
			{math.MinInt, 0}, {0, math.MinInt}, {math.MaxInt, 0}, {0, math.MaxInt}, {math.MinInt, math.MaxInt},
		} {
			if s, e := relief.Slope(m, c[0], c[1]); s != 0 || e != api.ErrRange {
				t.Errorf("Slope of %d by %d at %v: %d, %d", m.W, m.H, c, s, e)
			}
			if d, e := relief.Depth(m, c[0], c[1]); d != 0 || e != api.ErrRange {
				t.Errorf("Depth of %d by %d at %v: %d, %d", m.W, m.H, c, d, e)
			}
		}
	}
}
