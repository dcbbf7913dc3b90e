package drive_test

import (
	"math"
	"math/rand"
	"testing"

	"bivouac/api"
	"bivouac/drive"
)

func TestExamples(t *testing.T) { // the chapter's examples
	fast := api.Engine{Speed: one, Turn: half, W: 4, H: 4}
	slow := api.Engine{Speed: one, Turn: 4096, W: 4, H: 4}
	if m, there := step(t, ride{api.Mover{}, fast, 3 * one, 0}); m != (api.Mover{X: one}) || there {
		t.Errorf("Step to (3 One, 0): %v, %v", m, there)
	}
	if m, made := steps(t, ride{api.Mover{}, fast, 3 * one, 0}, 9); m != (api.Mover{X: 3 * one}) || made != 3 {
		t.Errorf("Steps to (3 One, 0), 9: %v, %d", m, made)
	}
	if m, there := step(t, ride{api.Mover{}, slow, 0, 3 * one}); m != (api.Mover{Angle: 4096}) || there {
		t.Errorf("Step to (0, 3 One): %v, %v", m, there)
	}
}

func onLand(m api.Mover, e api.Engine) bool {
	return 0 <= m.X && m.X < int64(e.W)*one && 0 <= m.Y && m.Y < int64(e.H)*one && 0 <= m.Angle && m.Angle < circle
}

func distance(a, b int64) int64 { return max(a-b, b-a) }

// bounded tells whether a mover may have come by one step from another one.
func bounded(from, m api.Mover, e api.Engine) bool {
	return onLand(m, e) && distance(from.X, m.X) <= e.Speed && distance(from.Y, m.Y) <= e.Speed && deviation(from.Angle, m.Angle) <= e.Turn
}

func TestMoversStayInBounds(t *testing.T) { // P14.4
	for _, c := range rides(4, 3000) {
		start := c.m
		for k := range 40 {
			m, there := step(t, c)
			if !bounded(c.m, m, c.e) {
				t.Fatalf("Step of %+v: %v", c, m)
			}
			if c.e.Speed == 0 && c.e.Turn == 0 && m != start {
				t.Fatalf("%v by nothing: %v", start, m)
			}
			if at := m.X == c.x && m.Y == c.y; there && !at {
				t.Fatalf("Step of %+v: %v, which is not the target", c, m)
			}
			if many, _ := steps(t, ride{start, c.e, c.x, c.y}, k+1); !onLand(many, c.e) {
				t.Fatalf("Steps of %+v, %d: %v", c, k+1, many)
			}
			c.m = m
			if there {
				break
			}
		}
	}
}

func TestMoversStayAtTheTarget(t *testing.T) { // P14.4
	for _, c := range rides(5, 20000) {
		c.x, c.y = c.m.X, c.m.Y
		if m, there := step(t, c); m != c.m || !there {
			t.Fatalf("Step of %+v: %v, %v", c, m, there)
		}
		if m, made := steps(t, c, 5); m != c.m || made != 1 {
			t.Fatalf("Steps of %+v, 5: %v, %d", c, m, made)
		}
	}
}

func TestMoversByNothing(t *testing.T) { // P14.4
	for _, c := range rides(6, 20000) {
		c.e.Speed, c.e.Turn = 0, 0
		m, there := step(t, c)
		if m != c.m || there != (c.m.X == c.x && c.m.Y == c.y) {
			t.Fatalf("Step of %+v: %v, %v", c, m, there)
		}
		if m, _ := steps(t, c, 50); m != c.m {
			t.Fatalf("Steps of %+v, 50: %v", c, m)
		}
	}
}

// anyRide is a ride that need not be valid.
func anyRide(r *rand.Rand) ride {
	c := drawn(r)
	for _, v := range []*int64{&c.m.X, &c.m.Y, &c.m.Angle, &c.e.Speed, &c.e.Turn, &c.x, &c.y} {
		if r.Intn(8) == 0 {
			*v = pick(r, least, greatest, -1, int64(r.Uint64()), int64(r.Uint64())>>r.Intn(64))
		}
	}
	for _, v := range []*int{&c.e.W, &c.e.H} {
		if r.Intn(8) == 0 {
			*v = int(pick(r, math.MinInt, math.MaxInt, -1, 0, 65, int64(r.Uint64()), int64(r.Uint64())>>r.Intn(64)))
		}
	}
	return c
}

func valid(c ride) bool {
	for _, side := range []int{c.e.W, c.e.H} {
		if side < 1 || side > 64 {
			return false
		}
	}
	fast := c.e.Speed >= 0 && c.e.Speed <= one && c.e.Turn >= 0 && c.e.Turn <= half
	return fast && onLand(c.m, c.e) && onLand(api.Mover{X: c.x, Y: c.y}, c.e)
}

func TestAnyRide(t *testing.T) { // R1, R2, R3, R4
	r := rand.New(rand.NewSource(7))
	for range 50000 {
		c := anyRide(r)
		before, n := c, int(pick(r, least, -1, 0, 1, 20))
		m, there, e := drive.Step(c.m, c.e, c.x, c.y)
		again, thereAgain, eAgain := drive.Step(c.m, c.e, c.x, c.y)
		if m != again || there != thereAgain || e != eAgain || c != before {
			t.Fatalf("Step of %+v: %v, %v, %d, and again %v, %v, %d", c, m, there, e, again, thereAgain, eAgain)
		}
		many, made, manyE := drive.Steps(c.m, c.e, c.x, c.y, n)
		manyAgain, madeAgain, manyEAgain := drive.Steps(c.m, c.e, c.x, c.y, n)
		if many != manyAgain || made != madeAgain || manyE != manyEAgain || c != before {
			t.Fatalf("Steps of %+v, %d: %v, %d, %d, and again %v, %d, %d", c, n, many, made, manyE, manyAgain, madeAgain, manyEAgain)
		}
		want := api.ErrArg
		if valid(c) {
			want = api.OK
		}
		if e != want || manyE != want {
			t.Fatalf("%+v: %d and %d, want %d", c, e, manyE, want)
		}
		if want != api.OK && (m != api.Mover{} || there || many != api.Mover{} || made != 0) {
			t.Fatalf("%+v: %v, %v and %v, %d beside an error", c, m, there, many, made)
		}
		if a, b := c.m.X, c.x; drive.Off(a, b) != drive.Off(b, a) || drive.Off(a, b) < 0 || drive.Off(a, b) > half {
			t.Fatalf("Off(%d, %d): %d, and back %d", a, b, drive.Off(a, b), drive.Off(b, a))
		}
	}
}
