package drive_test

import (
	"math"
	"math/big"
	"math/rand"
	"testing"

	"bivouac/api"
	"bivouac/drive"
	"bivouac/fix"
	"bivouac/trig"
)

const (
	one      = api.One
	circle   = api.Circle
	half     = api.HalfCircle
	quarter  = circle / 4
	ahead    = api.Ahead
	least    = math.MinInt64
	greatest = math.MaxInt64
)

// ride is what a step is asked for: who moves, by which engine, and to where.
type ride struct {
	m    api.Mover
	e    api.Engine
	x, y int64
}

// deviation is how far off two angles are, by the chapter's words, of unbounded numbers.
func deviation(a, b int64) int64 {
	turn := func(from, to int64) int64 {
		d := new(big.Int).Sub(big.NewInt(to), big.NewInt(from))
		return d.Mod(d, big.NewInt(circle)).Int64()
	}
	return min(turn(a, b), turn(b, a))
}

// wind is the angle of the wind that leads to the target.
func (c ride) wind() int64 {
	d, _ := trig.Heading(c.x-c.m.X, c.y-c.m.Y)
	return 256 * d
}

// stepped is where a step of a valid ride leads, by the chapter's words.
func (c ride) stepped() (api.Mover, bool) {
	m := c.m
	if m.X == c.x && m.Y == c.y {
		return m, true
	}
	w := c.wind()
	m.Angle = trig.Toward(m.Angle, w, c.e.Turn)
	if deviation(m.Angle, w) > ahead {
		return m, false
	}
	length, _ := fix.Length(c.x-c.m.X, c.y-c.m.Y)
	if length <= c.e.Speed {
		m.X, m.Y = c.x, c.y
		return m, true
	}
	dx, dy, _ := trig.Vec(m.Angle, c.e.Speed)
	m.X, m.Y = clamped(m.X+dx, c.e.W), clamped(m.Y+dy, c.e.H)
	return m, false
}

func clamped(v int64, cells int) int64 {
	if v < 0 {
		return 0
	}
	if v >= int64(cells)*one {
		return int64(cells)*one - 1
	}
	return v
}

// step is Step of a valid ride.
func step(t *testing.T, c ride) (api.Mover, bool) {
	t.Helper()
	m, there, e := drive.Step(c.m, c.e, c.x, c.y)
	if e != api.OK {
		t.Fatalf("Step of %+v: %d", c, e)
	}
	return m, there
}

// steps is Steps of a valid ride.
func steps(t *testing.T, c ride, n int) (api.Mover, int) {
	t.Helper()
	m, made, e := drive.Steps(c.m, c.e, c.x, c.y, n)
	if e != api.OK {
		t.Fatalf("Steps of %+v, %d: %d", c, n, e)
	}
	return m, made
}

// pick is one of some numbers.
func pick(r *rand.Rand, of ...int64) int64 { return of[r.Intn(len(of))] }

func side(r *rand.Rand) int { return int(pick(r, 1, 2, 4, 64, 1+r.Int63n(64))) }

// place is a coordinate of a land of so many cells, often one at a side.
func place(r *rand.Rand, cells int) int64 {
	last := int64(cells)*one - 1
	return clamped(pick(r, 0, last, r.Int63n(last+1), r.Int63n(last+1), r.Int63n(8), last-r.Int63n(8), r.Int63n(one), last-r.Int63n(one)), cells)
}

// around is a coordinate of a land of so many cells, often one near to another one.
func around(r *rand.Rand, v, speed int64, cells int) int64 {
	return clamped(pick(r, v, place(r, cells), v+r.Int63n(9)-4, v+r.Int63n(2*speed+1)-speed, v+r.Int63n(4*speed+1)-2*speed, v+speed, v-speed), cells)
}

// drawn is a valid ride: many at the borders of what a step tells apart.
func drawn(r *rand.Rand) ride {
	c := ride{e: api.Engine{
		Speed: pick(r, 0, 1, 2, one-1, one, r.Int63n(one+1), r.Int63n(one+1), r.Int63n(100)),
		Turn:  pick(r, 0, 1, half-1, half, r.Int63n(half+1), r.Int63n(half+1), r.Int63n(2048), 256*r.Int63n(129)),
		W:     side(r),
		H:     side(r),
	}}
	c.m.X, c.m.Y = place(r, c.e.W), place(r, c.e.H)
	c.x, c.y = around(r, c.m.X, c.e.Speed, c.e.W), around(r, c.m.Y, c.e.Speed, c.e.H)
	if r.Intn(8) == 0 {
		c.x, c.y = c.m.X, c.m.Y
	}
	off := pick(r, 0, ahead, ahead+c.e.Turn, c.e.Turn, half, r.Int63n(half+1)) + r.Int63n(3) - 1
	c.m.Angle = trig.Norm(pick(r, r.Int63n(circle), c.wind()+off, c.wind()-off))
	return c
}

// rides are valid ones, drawn.
func rides(seed int64, count int) []ride {
	r := rand.New(rand.NewSource(seed))
	out := make([]ride, count)
	for k := range out {
		out[k] = drawn(r)
	}
	return out
}

// wrong are rides of which one number alone may not be.
func wrong() []ride {
	valid := ride{m: api.Mover{X: 5, Y: one, Angle: 6}, e: api.Engine{Speed: 7, Turn: 8, W: 4, H: 9}, x: one, y: 5}
	var out []ride
	beyond := func(at func(*ride) *int64, last int64) {
		for _, v := range []int64{least, least + 1, -1 << 32, -last - 1, -1, last + 1, 1<<32 + last, 1 << 48, greatest - 1, greatest} {
			c := valid
			*at(&c) = v
			out = append(out, c)
		}
	}
	beyond(func(c *ride) *int64 { return &c.e.Speed }, one)
	beyond(func(c *ride) *int64 { return &c.e.Turn }, half)
	beyond(func(c *ride) *int64 { return &c.m.X }, 4*one-1)
	beyond(func(c *ride) *int64 { return &c.m.Y }, 9*one-1)
	beyond(func(c *ride) *int64 { return &c.m.Angle }, circle-1)
	beyond(func(c *ride) *int64 { return &c.x }, 4*one-1)
	beyond(func(c *ride) *int64 { return &c.y }, 9*one-1)
	for _, v := range []int{math.MinInt, math.MinInt + 1, math.MinInt + 4, -1 << 32, -64, -4, -1, 0, 65, 1<<16 + 4, 1<<32 + 4, 1<<47 + 4, 1<<48 + 4, math.MaxInt - 1, math.MaxInt} {
		wide, high := valid, valid
		wide.e.W, high.e.H = v, v
		out = append(out, wide, high)
	}
	return out
}
