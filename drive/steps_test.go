package drive_test

import (
	"math"
	"testing"

	"bivouac/api"
	"bivouac/drive"
)

// repeated is Step repeated, at most n times, and not after it returned true; and how often it was made.
func repeated(t *testing.T, c ride, n int) (m api.Mover, made int, there bool) {
	t.Helper()
	for made < n && !there {
		c.m, there = step(t, c)
		made++
	}
	return c.m, made, there
}

// most is how many steps a test repeats.
const most = 300

func TestStepsToTheTarget(t *testing.T) { // P14.3
	e := wide(one, quarter)
	c := ride{api.Mover{X: mid, Y: mid, Angle: half}, e, mid + 5*one/2, mid}
	// Two steps turn, of which the second one goes, and two more lead to the target.
	path := []api.Mover{
		{X: mid, Y: mid, Angle: half},
		{X: mid, Y: mid, Angle: 3 * quarter},
		{X: mid + one, Y: mid},
		{X: mid + 2*one, Y: mid},
		{X: mid + 5*one/2, Y: mid},
	}
	for _, n := range []int{math.MinInt, math.MinInt + 1, -1 << 32, -5, -1, 0, 1, 2, 3, 4, 5, 6, 100, 1 << 32, math.MaxInt - 1, math.MaxInt} {
		made := max(0, min(n, 4))
		if m, count := steps(t, c, n); m != path[made] || count != made {
			t.Errorf("Steps, %d: %v, %d, want %v, %d", n, m, count, path[made], made)
		}
	}
}

func TestStepsAtTheTarget(t *testing.T) { // P14.3
	stays := api.Mover{X: 5, Y: 6, Angle: 7}
	for _, e := range []api.Engine{wide(0, 0), wide(one, half)} {
		for _, n := range []int{math.MinInt, -1, 0, 1, 2, 1 << 32, math.MaxInt} {
			made := max(0, min(n, 1))
			if m, count := steps(t, ride{stays, e, 5, 6}, n); m != stays || count != made {
				t.Errorf("Steps at the target, %d: %v, %d, want %d", n, m, count, made)
			}
		}
	}
}

func TestStepsOfWhoNeverIsThere(t *testing.T) { // P14.3
	for _, c := range []struct {
		c    ride
		want api.Mover
	}{
		{ride{api.Mover{Angle: half}, wide(0, 0), 9, 9}, api.Mover{Angle: half}},
		{ride{api.Mover{Angle: half}, wide(one, 0), 9, 0}, api.Mover{Angle: half}},
		{ride{api.Mover{}, wide(0, 1), 0, 9}, api.Mover{Angle: quarter}},
		// It passes its target, which is then behind it.
		{ride{api.Mover{Angle: 256}, wide(one, 0), 3 * one, 0}, api.Mover{X: 3 * 65516, Y: 3 * 1608, Angle: 256}},
	} {
		for _, n := range []int{quarter, quarter + 1, 1 << 32, math.MaxInt} {
			if m, count := steps(t, c.c, n); m != c.want || count != n {
				t.Errorf("Steps of %+v, %d: %v, %d, want %v", c.c, n, m, count, c.want)
			}
		}
	}
}

func TestStepsOfWrongRides(t *testing.T) { // P14.3
	for _, c := range wrong() {
		for _, n := range []int{math.MinInt, -1, 0, 1, 9, math.MaxInt} {
			if m, count, e := drive.Steps(c.m, c.e, c.x, c.y, n); m != (api.Mover{}) || count != 0 || e != api.ErrArg {
				t.Errorf("Steps of %+v, %d: %v, %d, %d", c, n, m, count, e)
			}
		}
	}
}

func TestStepsByStep(t *testing.T) { // P14.3
	thereOften := 0
	for _, c := range rides(2, 1500) {
		_, made, there := repeated(t, c, most)
		counts := []int{math.MinInt, -1, 0, 1, 2, made / 2, made - 1, made, most}
		if there {
			thereOften++
			counts = append(counts, made+1, math.MaxInt)
		}
		for _, n := range counts {
			want, wantMade, _ := repeated(t, c, min(n, most))
			if m, count := steps(t, c, n); m != want || count != wantMade {
				t.Fatalf("Steps of %+v, %d: %v, %d, want %v, %d", c, n, m, count, want, wantMade)
			}
		}
	}
	if thereOften < 300 {
		t.Errorf("only %d rides ended at their targets", thereOften)
	}
}

func TestStepsInParts(t *testing.T) { // P14.3
	for _, c := range rides(3, 2000) {
		all, made := steps(t, c, 60)
		for _, n := range []int{0, 1, 2, made / 2, made - 1, made, 59} {
			part := c
			first := 0
			part.m, first = steps(t, c, n)
			whole, second := steps(t, part, 60-n)
			if whole != all {
				t.Fatalf("Steps of %+v, %d and then %d: %v, want %v", c, n, 60-n, whole, all)
			}
			if n < made && first+second != made {
				t.Fatalf("Steps of %+v, %d and then %d: %d and %d steps, want %d", c, n, 60-n, first, second, made)
			}
		}
	}
}
