package drive_test

import (
	"testing"

	"bivouac/api"
	"bivouac/drive"
)

// wide is an engine on the greatest land.
func wide(speed, turn int64) api.Engine {
	return api.Engine{Speed: speed, Turn: turn, W: 64, H: 64}
}

// told is where a ride leads.
type told struct {
	c     ride
	want  api.Mover
	there bool
}

func holds(t *testing.T, list []told) {
	t.Helper()
	for _, c := range list {
		if m, there := step(t, c.c); m != c.want || there != c.there {
			t.Errorf("Step of %+v: %v, %v, want %v, %v", c.c, m, there, c.want, c.there)
		}
	}
}

func TestStepOfWrongRides(t *testing.T) { // P14.2
	for _, c := range wrong() {
		if m, there, e := drive.Step(c.m, c.e, c.x, c.y); m != (api.Mover{}) || there || e != api.ErrArg {
			t.Errorf("Step of %+v: %v, %v, %d", c, m, there, e)
		}
	}
	// At the target, and where the two are beside the land alike.
	for _, v := range []int64{-1, 4 * one, least, greatest} {
		m, there, e := drive.Step(api.Mover{X: v}, api.Engine{W: 4, H: 4}, v, 0)
		if m != (api.Mover{}) || there || e != api.ErrArg {
			t.Errorf("Step at %d: %v, %v, %d", v, m, there, e)
		}
	}
	for _, e := range []api.Engine{{Speed: -1, W: 1, H: 1}, {Turn: half + 1, W: 1, H: 1}, {W: 1}, {H: 1}, {}} {
		if m, there, e := drive.Step(api.Mover{}, e, 0, 0); m != (api.Mover{}) || there || e != api.ErrArg {
			t.Errorf("Step at the target by %+v: %v, %v, %d", e, m, there, e)
		}
	}
}

func TestStepAtBounds(t *testing.T) { // P14.2
	for _, side := range []int{1, 2, 63, 64} {
		last := int64(side)*one - 1
		for _, speed := range []int64{0, one} {
			for _, turn := range []int64{0, half} {
				for _, angle := range []int64{0, circle - 1} {
					for _, at := range [][4]int64{{0, 0, last, last}, {last, last, 0, 0}, {0, last, last, 0}, {last, 0, 0, last}, {last, last, last, last}, {0, 0, 0, 0}} {
						c := ride{api.Mover{X: at[0], Y: at[1], Angle: angle}, api.Engine{Speed: speed, Turn: turn, W: side, H: side}, at[2], at[3]}
						want, wantThere := c.stepped()
						if m, there := step(t, c); m != want || there != wantThere {
							t.Errorf("Step of %+v: %v, %v, want %v, %v", c, m, there, want, wantThere)
						}
					}
				}
			}
		}
	}
	// A land that is wider than high has bounds of its own in each direction.
	for _, c := range []struct {
		m    api.Mover
		w, h int
		x, y int64
		e    api.Errno
	}{
		{api.Mover{X: 64*one - 1, Y: one - 1}, 64, 1, 0, 0, api.OK},
		{api.Mover{X: one - 1, Y: 64*one - 1}, 1, 64, 0, 0, api.OK},
		{api.Mover{X: one, Y: 0}, 1, 64, 0, 0, api.ErrArg},
		{api.Mover{X: 0, Y: one}, 64, 1, 0, 0, api.ErrArg},
		{api.Mover{}, 64, 1, 64*one - 1, one - 1, api.OK},
		{api.Mover{}, 1, 64, one - 1, 64*one - 1, api.OK},
		{api.Mover{}, 1, 64, one, 0, api.ErrArg},
		{api.Mover{}, 64, 1, 0, one, api.ErrArg},
	} {
		if _, _, e := drive.Step(c.m, api.Engine{W: c.w, H: c.h}, c.x, c.y); e != c.e {
			t.Errorf("Step of %v on %d by %d cells to %d, %d: %d, want %d", c.m, c.w, c.h, c.x, c.y, e, c.e)
		}
	}
}

func TestStepAtTheTarget(t *testing.T) { // P14.2
	for _, at := range []int64{0, 5, one, 64*one - 1} {
		for _, angle := range []int64{0, 7, half, circle - 1} {
			for _, e := range []api.Engine{wide(0, 0), wide(one, 0), wide(0, half), wide(one, half), wide(3, 5)} {
				stays := api.Mover{X: at, Y: 64*one - 1 - at, Angle: angle}
				holds(t, []told{{ride{stays, e, stays.X, stays.Y}, stays, true}})
			}
		}
	}
	// One number alone is not the place.
	holds(t, []told{
		{ride{api.Mover{X: 9, Y: 9}, wide(0, 0), 9, 8}, api.Mover{X: 9, Y: 9}, false},
		{ride{api.Mover{X: 9, Y: 9}, wide(0, 0), 8, 9}, api.Mover{X: 9, Y: 9}, false},
	})
}

const mid = 32 * one

func TestStepTurns(t *testing.T) { // P14.2
	from := func(angle int64) api.Mover { return api.Mover{X: mid, Y: mid, Angle: angle} }
	holds(t, []told{
		// The wind is a quarter away: less than Turn, just Turn, and more.
		{ride{from(0), wide(0, quarter+1), mid, mid + 5}, from(quarter), false},
		{ride{from(0), wide(0, quarter), mid, mid + 5}, from(quarter), false},
		{ride{from(0), wide(0, quarter-1), mid, mid + 5}, from(quarter - 1), false},
		{ride{from(0), wide(0, 1), mid, mid + 5}, from(1), false},
		{ride{from(0), wide(0, 0), mid, mid + 5}, from(0), false},
		{ride{from(0), wide(0, half), mid, mid + 5}, from(quarter), false},

		// The other way round.
		{ride{from(0), wide(0, quarter+1), mid, mid - 5}, from(3 * quarter), false},
		{ride{from(0), wide(0, quarter), mid, mid - 5}, from(3 * quarter), false},
		{ride{from(0), wide(0, quarter-1), mid, mid - 5}, from(3*quarter + 1), false},
		{ride{from(0), wide(0, 1), mid, mid - 5}, from(circle - 1), false},
		{ride{from(0), wide(0, 0), mid, mid - 5}, from(0), false},
		{ride{from(0), wide(0, half), mid, mid - 5}, from(3 * quarter), false},

		// Over angle 0, either way.
		{ride{from(circle - 100), wide(0, 300), mid + 5, mid}, from(0), false},
		{ride{from(100), wide(0, 300), mid + 5, mid}, from(0), false},
		{ride{from(circle - 100), wide(0, 300), mid, mid + 5}, from(200), false},
		{ride{from(100), wide(0, 300), mid, mid - 5}, from(circle - 200), false},

		// Half a turn away, upward; a part more or less, the shorter way.
		{ride{from(0), wide(0, 100), mid - 5, mid}, from(100), false},
		{ride{from(half), wide(0, 100), mid + 5, mid}, from(half + 100), false},
		{ride{from(quarter), wide(0, 100), mid, mid - 5}, from(quarter + 100), false},
		{ride{from(3 * quarter), wide(0, 100), mid, mid + 5}, from(3*quarter + 100), false},
		{ride{from(0), wide(0, half), mid - 5, mid}, from(half), false},
		{ride{from(circle - 1), wide(0, 100), mid - 5, mid}, from(circle - 101), false},
		{ride{from(1), wide(0, 100), mid - 5, mid}, from(101), false},
		{ride{from(half - 1), wide(0, 100), mid + 5, mid}, from(half - 101), false},
		{ride{from(half + 1), wide(0, 100), mid + 5, mid}, from(half + 101), false},

		// A heading that is no wind stays where it cannot turn.
		{ride{from(77), wide(0, 0), mid + 5, mid}, from(77), false},
	})
}

func TestStepGoesAhead(t *testing.T) { // P14.2
	from := func(angle int64) api.Mover { return api.Mover{X: mid, Y: mid, Angle: angle} }
	to := func(x, y, angle int64) api.Mover { return api.Mover{X: mid + x, Y: mid + y, Angle: angle} }
	holds(t, []told{
		{ride{from(0), wide(one, 0), mid + 2*one, mid}, to(one, 0, 0), false},
		{ride{from(0), wide(one, half), mid, mid + 2*one}, to(0, one, quarter), false},
		{ride{from(0), wide(one, half), mid - 2*one, mid}, to(-one, 0, half), false},
		{ride{from(0), wide(one, half), mid, mid - 2*one}, to(0, -one, 3*quarter), false},
		{ride{from(0), wide(one, half), mid + 2*one, mid + 2*one}, to(46341, 46341, 8192), false},
		{ride{from(0), wide(one, half), mid - 2*one, mid - 2*one}, to(-46341, -46341, 40960), false},
		{ride{from(0), wide(1000, half), mid + 2*one, mid + 2*one}, to(707, 707, 8192), false},
		{ride{from(0), wide(1000, half), mid - 2*one, mid - 2*one}, to(-708, -708, 40960), false},

		// It goes where it heads, which the wind need not be.
		{ride{from(0), wide(one, quarter-1), mid, mid + 2*one}, to(6, 65535, quarter-1), false},
		{ride{from(256), wide(one, 0), mid + 2*one, mid}, to(65516, 1608, 256), false},

		// Just Ahead off, and farther.
		{ride{from(0), wide(one, ahead), mid, mid + 2*one}, to(46341, 46341, ahead), false},
		{ride{from(0), wide(one, ahead-1), mid, mid + 2*one}, from(ahead - 1), false},
		{ride{from(0), wide(one, ahead), mid, mid - 2*one}, to(46341, -46341, circle-ahead), false},
		{ride{from(0), wide(one, ahead-1), mid, mid - 2*one}, from(circle - ahead + 1), false},
		{ride{from(ahead), wide(one, 0), mid + 2*one, mid}, to(46341, 46341, ahead), false},
		{ride{from(ahead + 1), wide(one, 0), mid + 2*one, mid}, from(ahead + 1), false},
		{ride{from(circle - ahead), wide(one, 0), mid + 2*one, mid}, to(46341, -46341, circle-ahead), false},
		{ride{from(circle - ahead - 1), wide(one, 0), mid + 2*one, mid}, from(circle - ahead - 1), false},
		{ride{from(0), wide(one, half-ahead), mid - 2*one, mid}, to(-46341, 46341, half-ahead), false},
		{ride{from(0), wide(one, half-ahead-1), mid - 2*one, mid}, from(half - ahead - 1), false},
		{ride{from(half), wide(one, 0), mid + 2*one, mid}, from(half), false},

		// Farther than Ahead off it stays, though it is not farther away than Speed.
		{ride{from(ahead + 1), wide(one, 0), mid + 1, mid}, from(ahead + 1), false},
		{ride{from(circle - ahead - 1), wide(one, 0), mid + one, mid}, from(circle - ahead - 1), false},
		{ride{from(0), wide(one, ahead-1), mid, mid + 1}, from(ahead - 1), false},
		{ride{from(half), wide(one, 5), mid + 1, mid}, from(half + 5), false},

		// By nothing it goes nowhere.
		{ride{from(0), wide(0, 0), mid + 2*one, mid}, from(0), false},
		{ride{from(0), wide(0, half), mid, mid + 1}, from(quarter), false},
	})
}

func TestStepIsThere(t *testing.T) { // P14.2
	from := func(angle int64) api.Mover { return api.Mover{X: mid, Y: mid, Angle: angle} }
	to := func(x, y, angle int64) api.Mover { return api.Mover{X: mid + x, Y: mid + y, Angle: angle} }
	holds(t, []told{
		{ride{from(0), wide(one, 0), mid + one, mid}, to(one, 0, 0), true},
		{ride{from(0), wide(one, 0), mid + one - 1, mid}, to(one-1, 0, 0), true},
		{ride{from(0), wide(one, 0), mid + one + 1, mid}, to(one, 0, 0), false},
		{ride{from(0), wide(one-1, 0), mid + one, mid}, to(one-1, 0, 0), false},
		{ride{from(0), wide(1, half), mid, mid - 1}, to(0, -1, 3*quarter), true},
		{ride{from(0), wide(1, half), mid, mid - 2}, to(0, -1, 3*quarter), false},
		{ride{from(0), wide(1, half), mid - 1, mid}, to(-1, 0, half), true},
		{ride{from(0), wide(0, half), mid - 1, mid}, from(half), false},

		// The length is rounded down: of 4 and 4 it is 5, of 1 and 1 it is 1.
		{ride{from(8192), wide(5, 0), mid + 3, mid + 4}, to(3, 4, 8192), true},
		{ride{from(8192), wide(4, 0), mid + 3, mid + 4}, to(2, 2, 8192), false},
		{ride{from(8192), wide(5, 0), mid + 4, mid + 4}, to(4, 4, 8192), true},
		{ride{from(8192), wide(4, 0), mid + 4, mid + 4}, to(2, 2, 8192), false},
		{ride{from(8192), wide(1, 0), mid + 1, mid + 1}, to(1, 1, 8192), true},
		{ride{from(8192), wide(one, 0), mid + 46341, mid + 46341}, to(46341, 46341, 8192), true},
		{ride{from(8192), wide(one, 0), mid + 46342, mid + 46342}, to(46341, 46341, 8192), false},

		// Its heading is the one after the turn, which the wind need not be.
		{ride{from(ahead), wide(one, 0), mid + 9, mid}, to(9, 0, ahead), true},
		{ride{from(ahead), wide(one, 3), mid + 9, mid}, to(9, 0, ahead-3), true},
		{ride{from(0), wide(one, ahead), mid, mid + 9}, to(0, 9, ahead), true},
		{ride{from(0), wide(one, ahead), mid, mid - 9}, to(0, -9, circle-ahead), true},
	})
}

// mirrored are a ride and its answer with x, y or both turned about, and with both exchanged. Winds that are as good
// as one another and numbers that are rounded down have no mirror: it is for what ends at sides.
func mirrored(c told) []told {
	var out []told
	for _, of := range []told{c, exchanged(c)} {
		out = append(out, of, turnedX(of), turnedY(of), turnedY(turnedX(of)))
	}
	return out
}

func turnedX(c told) told {
	right := int64(c.c.e.W)*one - 1
	turn := func(m api.Mover) api.Mover {
		return api.Mover{X: right - m.X, Y: m.Y, Angle: (half + circle - m.Angle) % circle}
	}
	return told{ride{turn(c.c.m), c.c.e, right - c.c.x, c.c.y}, turn(c.want), c.there}
}

func turnedY(c told) told {
	bottom := int64(c.c.e.H)*one - 1
	turn := func(m api.Mover) api.Mover {
		return api.Mover{X: m.X, Y: bottom - m.Y, Angle: (circle - m.Angle) % circle}
	}
	return told{ride{turn(c.c.m), c.c.e, c.c.x, bottom - c.c.y}, turn(c.want), c.there}
}

func exchanged(c told) told {
	turn := func(m api.Mover) api.Mover {
		return api.Mover{X: m.Y, Y: m.X, Angle: (quarter + circle - m.Angle) % circle}
	}
	e := api.Engine{Speed: c.c.e.Speed, Turn: c.c.e.Turn, W: c.c.e.H, H: c.c.e.W}
	return told{ride{turn(c.c.m), e, c.c.y, c.c.x}, turn(c.want), c.there}
}

func TestStepEndsAtSides(t *testing.T) { // P14.2
	// At x = 0 it goes along the side, heading over it: one number is the side's, and the other one goes on.
	along := told{ride{api.Mover{X: mid, Y: 0, Angle: circle - ahead}, wide(one, 0), mid + 2*one, 0}, api.Mover{X: mid + 46341, Y: 0, Angle: circle - ahead}, false}
	out := along
	out.c.m.Y, out.c.y = 1, 1
	out.c.m.X++
	out.want.X++
	just := along
	just.c.m.Y, just.c.y = 46341, 46341
	within := along
	within.c.m.Y, within.c.y, within.want.Y = 46342, 46342, 1
	for _, c := range []told{along, out, just, within} {
		holds(t, mirrored(c))
	}
	// The land's other side, where the last place is not a whole one.
	last := int64(64*one - 1)
	holds(t, []told{
		{ride{api.Mover{X: mid, Y: last, Angle: ahead}, wide(one, 0), mid + 2*one, last}, api.Mover{X: mid + 46341, Y: last, Angle: ahead}, false},
		{ride{api.Mover{X: mid, Y: last - 46341, Angle: ahead}, wide(one, 0), mid + 2*one, last}, api.Mover{X: mid + 46341, Y: last, Angle: ahead}, false},
		{ride{api.Mover{X: mid, Y: last - 46342, Angle: ahead}, wide(one, 0), mid + 2*one, last}, api.Mover{X: mid + 46341, Y: last - 1, Angle: ahead}, false},
	})
}

func TestStepEndsInCorners(t *testing.T) { // P14.2
	for _, e := range []api.Engine{{Speed: one, W: 1, H: 1}, {Speed: one, W: 1, H: 64}, {Speed: one, W: 64, H: 1}, {Speed: one, W: 64, H: 64}, {Speed: one, W: 3, H: 5}} {
		right, bottom := int64(e.W)*one-1, int64(e.H)*one-1
		// It heads into the corner, but its target is at the side, farther away than Speed.
		m := api.Mover{X: right - 61000, Y: bottom, Angle: 14 * 256}
		holds(t, mirrored(told{ride{m, e, right, bottom - 27158}, api.Mover{X: right, Y: bottom, Angle: 14 * 256}, false}))
	}
}

func TestStepByItsWords(t *testing.T) { // P14.2
	for _, c := range rides(1, 200000) {
		want, wantThere := c.stepped()
		if m, there := step(t, c); m != want || there != wantThere {
			t.Fatalf("Step of %+v: %v, %v, want %v, %v", c, m, there, want, wantThere)
		}
	}
}

func TestStepOfEveryAngle(t *testing.T) { // P14.2
	for angle := range int64(circle) {
		for k, turn := range []int64{0, 700, ahead, half} {
			to := [][2]int64{{mid + 3*one, mid}, {mid - one, mid + 2*one}, {mid - one - 3, mid - 5}, {mid + 7, mid - 6}}[(int(angle)+k)%4]
			c := ride{api.Mover{X: mid, Y: mid, Angle: angle}, wide(one, turn), to[0], to[1]}
			want, wantThere := c.stepped()
			if m, there := step(t, c); m != want || there != wantThere {
				t.Fatalf("Step of %+v: %v, %v, want %v, %v", c, m, there, want, wantThere)
			}
		}
	}
}
