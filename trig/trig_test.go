package trig_test

import (
	"math"
	"math/big"
	"math/rand"
	"testing"

	"bivouac/api"
	"bivouac/trig"
)

const (
	one      = api.One
	far      = api.Far
	circle   = api.Circle
	half     = api.HalfCircle
	quarter  = circle / 4
	least    = math.MinInt64
	greatest = math.MaxInt64
)

// sines is the chapter's table.
var sines = []int64{0, 1608, 3216, 4821, 6424, 8022, 9616, 11204, 12785, 14359, 15924, 17479, 19024, 20557, 22078, 23586, 25080, 26558, 28020, 29466, 30893, 32303, 33692, 35062, 36410, 37736, 39040, 40320, 41576, 42806, 44011, 45190, 46341, 47464, 48559, 49624, 50660, 51665, 52639, 53581, 54491, 55368, 56212, 57022, 57798, 58538, 59244, 59914, 60547, 61145, 61705, 62228, 62714, 63162, 63572, 63944, 64277, 64571, 64827, 65043, 65220, 65358, 65457, 65516, 65536}

// divideDown is the quotient by a number above 0, rounded down.
func divideDown(a, by int64) int64 {
	q := a / by
	if a%by < 0 {
		q--
	}
	return q
}

// remainder is what is left of a by Circle, of unbounded numbers.
func remainder(a *big.Int) int64 {
	return new(big.Int).Mod(a, big.NewInt(circle)).Int64()
}

// sine is the sine of an angle from 0 to below two turns, by the chapter's words.
func sine(a int64) int64 {
	p := a % circle
	q, r := p/16384, p%16384
	if q == 1 || q == 3 {
		r = 16384 - r
	}
	i := r / 256
	v := sines[i]
	if i < 64 {
		v += divideDown((sines[i+1]-sines[i])*(r%256), 256)
	}
	if q == 2 || q == 3 {
		v = -v
	}
	return v
}

func cosine(a int64) int64 { return sine(a%circle + 16384) }

// angles are the edges of a turn and of its quarters, those of what fits, and some of every length.
func angles() []int64 {
	out := []int64{least, least + 1, least + quarter, greatest, greatest - 1, greatest - quarter, 3 * circle, -3 * circle, circle * 7 / 3, 12345678901}
	for _, a := range []int64{0, quarter, half, 3 * quarter, circle} {
		out = append(out, a-1, a, a+1, -a-1, -a, -a+1)
	}
	r := rand.New(rand.NewSource(1))
	for shift := range 32 {
		out = append(out, int64(r.Uint64())>>(2*shift))
	}
	return out
}

func TestNorm(t *testing.T) { // P3.1
	for _, c := range []struct{ a, want int64 }{
		{0, 0},
		{1, 1},
		{circle - 1, circle - 1},
		{circle, 0},
		{circle + 1, 1},
		{2*circle - 1, circle - 1},
		{2 * circle, 0},
		{-1, circle - 1},
		{-circle + 1, 1},
		{-circle, 0},
		{-circle - 1, circle - 1},
		{greatest, circle - 1},
		{least, 0},
		{least + 1, 1},
	} {
		if v := trig.Norm(c.a); v != c.want {
			t.Errorf("Norm(%d): %d, want %d", c.a, v, c.want)
		}
	}
	for _, a := range angles() {
		if v, want := trig.Norm(a), remainder(big.NewInt(a)); v != want {
			t.Errorf("Norm(%d): %d, want %d", a, v, want)
		}
	}
}

func TestSinAndCos(t *testing.T) { // P3.1
	for _, c := range []struct{ a, sin, cos int64 }{
		{0, 0, one},
		{1, 6, 65535},
		{128, 804, 65526},
		{255, 1601, 65516},
		{256, 1608, 65516},
		{257, 1614, 65515},
		{quarter / 2, 46341, 46341},
		{quarter - 256, 65516, 1608},
		{quarter - 255, 65516, 1601},
		{quarter - 1, 65535, 6},
		{quarter, one, 0},
		{quarter + 1, 65535, -6},
		{half - 1, 6, -65535},
		{half, 0, -one},
		{half + 1, -6, -65535},
		{3*quarter - 1, -65535, -6},
		{3 * quarter, -one, 0},
		{3*quarter + 1, -65535, 6},
		{circle - 1, -6, 65535},
		{circle, 0, one},
		{circle + 256, 1608, 65516},

		{-1, -6, 65535},
		{-quarter, -one, 0},
		{-half, 0, -one},
		{-3 * quarter, one, 0},
		{-circle, 0, one},

		{greatest, -6, 65535},
		{greatest - quarter, -65535, -6},
		{least, 0, one},
		{least + quarter, one, 0},
	} {
		if v := trig.Sin(c.a); v != c.sin {
			t.Errorf("Sin(%d): %d, want %d", c.a, v, c.sin)
		}
		if v := trig.Cos(c.a); v != c.cos {
			t.Errorf("Cos(%d): %d, want %d", c.a, v, c.cos)
		}
	}
}

func TestEverySine(t *testing.T) { // P3.1
	for a := range int64(circle) {
		for _, turned := range []int64{a, a - circle, a + circle, a - 5*circle, a + 1<<40, a + least, a + greatest - circle + 1} {
			if v, want := trig.Sin(turned), sine(a); v != want {
				t.Fatalf("Sin(%d): %d, want %d", turned, v, want)
			}
			if v, want := trig.Cos(turned), cosine(a); v != want {
				t.Fatalf("Cos(%d): %d, want %d", turned, v, want)
			}
		}
	}
}

func TestTableIsOfSines(t *testing.T) { // P3.1
	for i := range int64(65) {
		exact := math.Sin(float64(i) * math.Pi / 128)
		if v := trig.Sin(256 * i); v != int64(math.Round(exact*one)) {
			t.Errorf("the entry %d is %d, the sine %f", i, v, exact)
		}
	}
}

func TestVec(t *testing.T) { // P3.2
	for _, c := range []struct {
		a, length, x, y int64
		e               api.Errno
	}{
		{0, one, one, 0, api.OK},
		{quarter, one, 0, one, api.OK},
		{half, one, -one, 0, api.OK},
		{3 * quarter, one, 0, -one, api.OK},
		{0, 0, 0, 0, api.OK},
		{777, 0, 0, 0, api.OK},

		// Within the quarters, with lengths of either sign.
		{quarter / 2, 2 * one, 92682, 92682, api.OK},
		{quarter + quarter/2, 2 * one, -92682, 92682, api.OK},
		{half + quarter/2, 2 * one, -92682, -92682, api.OK},
		{circle - quarter/2, 2 * one, 92682, -92682, api.OK},
		{quarter / 2, -2 * one, -92682, -92682, api.OK},
		{quarter + quarter/2, -2 * one, 92682, -92682, api.OK},
		{half + quarter/2, -2 * one, 92682, 92682, api.OK},
		{circle - quarter/2, -2 * one, -92682, 92682, api.OK},

		// With a rest: down is away from 0 for what is below 0.
		{quarter / 2, 1, 0, 0, api.OK},
		{quarter / 2, -1, -1, -1, api.OK},
		{quarter + quarter/2, 1, -1, 0, api.OK},
		{half + quarter/2, 1, -1, -1, api.OK},
		{circle - quarter/2, 1, 0, -1, api.OK},
		{quarter / 2, 3, 2, 2, api.OK},
		{quarter / 2, -3, -3, -3, api.OK},
		{256, 3, 2, 0, api.OK},
		{256, -3, -3, -1, api.OK},

		// At angles outside of a turn.
		{circle, one, one, 0, api.OK},
		{-quarter, one, 0, -one, api.OK},
		{greatest, one, 65535, -6, api.OK},
		{least, one, one, 0, api.OK},

		// As far as it goes, and beyond.
		{0, far, far, 0, api.OK},
		{0, -far, -far, 0, api.OK},
		{quarter, far, 0, far, api.OK},
		{quarter / 2, far, 46341 << 14, 46341 << 14, api.OK},
		{quarter / 2, -far, -46341 << 14, -46341 << 14, api.OK},
		{0, far - 1, far - 1, 0, api.OK},
		{0, far + 1, 0, 0, api.ErrOver},
		{quarter, far + 1, 0, 0, api.ErrOver},
		{quarter / 2, -far - 1, 0, 0, api.ErrOver},
		{0, -far - 1, 0, 0, api.ErrOver},
		{256, greatest, 0, 0, api.ErrOver},
		{256, least, 0, 0, api.ErrOver},
		{greatest, greatest, 0, 0, api.ErrOver},
		{least, least, 0, 0, api.ErrOver},
		{0, 1 << 48, 0, 0, api.ErrOver},
	} {
		if x, y, e := trig.Vec(c.a, c.length); x != c.x || y != c.y || e != c.e {
			t.Errorf("Vec(%d, %d): %d, %d, %d, want %d, %d, %d", c.a, c.length, x, y, e, c.x, c.y, c.e)
		}
	}
}

// coordinates are those of small vectors and of far ones, and some of every length within Far.
func coordinates(seed int64, count int) []int64 {
	out := []int64{0, far, -far, far - 1, -far + 1}
	for p := int64(1); p < far; p *= 8 {
		out = append(out, p-1, p, p+1, -p-1, -p, -p+1)
	}
	r := rand.New(rand.NewSource(seed))
	for i := range count {
		out = append(out, (r.Int63n(2*far+1)-far)>>(i%31))
	}
	return out
}

func TestVecByItsWords(t *testing.T) { // P3.2
	for _, a := range append(angles(), coordinates(3, 100)...) {
		for _, length := range coordinates(4, 100) {
			p := remainder(big.NewInt(a))
			x, y, e := trig.Vec(a, length)
			wantX, wantY := divideDown(length*cosine(p), one), divideDown(length*sine(p), one)
			if x != wantX || y != wantY || e != api.OK {
				t.Fatalf("Vec(%d, %d): %d, %d, %d, want %d, %d", a, length, x, y, e, wantX, wantY)
			}
		}
	}
}

func TestHeading(t *testing.T) { // P3.3
	for _, c := range []struct {
		x, y, want int64
		e          api.Errno
	}{
		{0, 0, 0, api.OK},

		// On the axes and on the diagonals.
		{one, 0, 0, api.OK},
		{one, one, 32, api.OK},
		{0, one, 64, api.OK},
		{-one, one, 96, api.OK},
		{-one, 0, 128, api.OK},
		{-one, -one, 160, api.OK},
		{0, -one, 192, api.OK},
		{one, -one, 224, api.OK},
		{1, 0, 0, api.OK},
		{1, 1, 32, api.OK},
		{0, 1, 64, api.OK},
		{-1, 1, 96, api.OK},
		{-1, 0, 128, api.OK},
		{-1, -1, 160, api.OK},
		{0, -1, 192, api.OK},
		{1, -1, 224, api.OK},

		// Beside the axes, on both sides.
		{far, 1, 0, api.OK},
		{far, -1, 0, api.OK},
		{1, far, 64, api.OK},
		{-1, far, 64, api.OK},
		{-far, 1, 128, api.OK},
		{-far, -1, 128, api.OK},
		{-1, -far, 192, api.OK},
		{1, -far, 192, api.OK},
		{100, 2, 1, api.OK},
		{100, -2, 255, api.OK},
		{2, 100, 63, api.OK},
		{-2, 100, 65, api.OK},
		{-100, 2, 127, api.OK},
		{-100, -2, 129, api.OK},
		{-2, -100, 191, api.OK},
		{2, -100, 193, api.OK},

		// Two winds are equally good: the lesser one is told, which is 0 at the end of the turn.
		{402, 5, 0, api.OK},
		{402, -5, 0, api.OK},
		{5, 402, 63, api.OK},
		{-5, 402, 64, api.OK},
		{-402, 5, 127, api.OK},
		{-402, -5, 128, api.OK},
		{-5, -402, 191, api.OK},
		{5, -402, 192, api.OK},

		// As far as it goes, and beyond.
		{far, far, 32, api.OK},
		{-far, far, 96, api.OK},
		{-far, -far, 160, api.OK},
		{far, -far, 224, api.OK},
		{far, 0, 0, api.OK},
		{0, -far, 192, api.OK},
		{far + 1, 0, 0, api.ErrOver},
		{0, far + 1, 0, api.ErrOver},
		{-far - 1, 0, 0, api.ErrOver},
		{0, -far - 1, 0, api.ErrOver},
		{-far, far + 1, 0, api.ErrOver},
		{-far - 1, far, 0, api.ErrOver},
		{-far - 1, -far - 1, 0, api.ErrOver},
		{greatest, 0, 0, api.ErrOver},
		{0, greatest, 0, api.ErrOver},
		{least, 0, 0, api.ErrOver},
		{0, least, 0, api.ErrOver},
		{least, greatest, 0, api.ErrOver},
		// A product by a sine is 0 in 64 bits.
		{-1 << 48, -1 << 48, 0, api.ErrOver},
	} {
		if d, e := trig.Heading(c.x, c.y); d != c.want || e != c.e {
			t.Errorf("Heading(%d, %d): %d, %d, want %d, %d", c.x, c.y, d, e, c.want, c.e)
		}
	}
}

// bestWinds are all winds for which the sum is greatest, from the least on.
func bestWinds(x, y int64) []int64 {
	var out []int64
	most := int64(least)
	for d := range int64(256) {
		sum := x*cosine(256*d) + y*sine(256*d)
		if sum > most {
			out, most = nil, sum
		}
		if sum == most {
			out = append(out, d)
		}
	}
	return out
}

func checkHeading(t *testing.T, x, y int64) []int64 {
	t.Helper()
	best := bestWinds(x, y)
	if d, e := trig.Heading(x, y); d != best[0] || e != api.OK {
		t.Fatalf("Heading(%d, %d): %d, %d, the best winds are %v", x, y, d, e, best)
	}
	return best
}

func TestHeadingAgainstAllWinds(t *testing.T) { // P3.3
	for _, x := range coordinates(5, 150) {
		for _, y := range coordinates(6, 150) {
			checkHeading(t, x, y)
		}
	}
	for x := int64(-40); x <= 40; x++ {
		for y := int64(-40); y <= 40; y++ {
			checkHeading(t, x, y)
		}
	}
}

// shortest is a vector's direction by its least whole numbers.
func shortest(x, y int64) (int64, int64) {
	a, b := max(x, -x), max(y, -y)
	for b != 0 {
		a, b = b, a%b
	}
	return x / a, y / a
}

func TestHeadingBetweenTwoWinds(t *testing.T) { // P3.3
	for d := range int64(256) {
		next := 256 * ((d + 1) % 256)
		// Of this direction both winds are equally good.
		x, y := shortest(sine(next)-sine(256*d), cosine(256*d)-cosine(next))
		best := checkHeading(t, x, y)
		if len(best) < 2 {
			t.Errorf("%d, %d lies between %d and the next wind, the best is %v", x, y, d, best)
		}
		for _, v := range [][2]int64{{x + 1, y}, {x - 1, y}, {x, y + 1}, {x, y - 1}} {
			checkHeading(t, v[0], v[1])
		}
	}
}

func TestHeadingOfWinds(t *testing.T) { // P3.3
	for d := range int64(256) {
		for _, length := range []int64{one, 3 * one, far} {
			x, y, _ := trig.Vec(256*d, length)
			if v, e := trig.Heading(x, y); v != d || e != api.OK {
				t.Errorf("Heading(%d, %d): %d, %d, want %d", x, y, v, e, d)
			}
		}
	}
}

func TestToward(t *testing.T) { // P3.4
	for _, c := range []struct{ from, to, most, want int64 }{
		// Upward, and downward.
		{100, 200, 30, 130},
		{200, 100, 30, 170},
		{100, 200, 99, 199},
		{100, 200, 100, 200},
		{100, 200, 101, 200},
		{200, 100, 99, 101},
		{200, 100, 100, 100},
		{200, 100, 101, 100},
		{100, 100, 5, 100},

		// Over the angle 0.
		{circle - 6, 10, 8, 2},
		{circle - 6, 10, 6, 0},
		{circle - 6, 10, 5, circle - 1},
		{circle - 6, 10, 100, 10},
		{10, circle - 6, 8, 2},
		{10, circle - 6, 10, 0},
		{10, circle - 6, 11, circle - 1},
		{10, circle - 6, 100, circle - 6},
		{0, circle - 1, 10, circle - 1},
		{0, circle - 1, 1, circle - 1},
		{circle - 1, 0, 1, 0},

		// Just half a turn, one less, one more.
		{0, half, 10, 10},
		{0, half - 1, 10, 10},
		{0, half + 1, 10, circle - 10},
		{half, 0, 10, half + 10},
		{half, circle - 1, 10, half + 10},
		{half, 1, 10, half - 10},
		{1000, 1000 + half, 10, 1010},
		{1000 + half, 1000, 10, 1010 + half},
		{circle - 1, half - 1, 10, 9},
		{0, half, half - 1, half - 1},
		{0, half, half, half},
		{0, half, half + 1, half},
		{half, 0, half, 0},
		{half, 0, half + 1, 0},
		{0, half + 1, half - 2, half + 2},
		{0, half + 1, half - 1, half + 1},

		// Not at all.
		{5, 100, 0, 5},
		{5, 100, -1, 5},
		{100, 5, 0, 100},
		{100, 5, -1, 100},
		{circle + 5, 100, -1, 5},
		{-5, 100, 0, circle - 5},
		{-5, 100, -circle, circle - 5},
		{5, 100, least, 5},
		{100, 5, least, 100},
		{least, 7, least, 0},
		{greatest, 7, -1, circle - 1},

		// Farther than there is to turn.
		{0, 40000, 1 << 40, 40000},
		{0, 20000, 1 << 40, 20000},
		{0, 40000, greatest, 40000},
		{0, 20000, greatest, 20000},
		{40000, 0, greatest, 0},
		{7, 7, greatest, 7},
		{0, half, circle + 10, half},

		// Angles outside of a turn.
		{circle + 100, 200, 30, 130},
		{100, 200 - circle, 30, 130},
		{-10, 10, 15, 5},
		{10, -10, 15, circle - 5},
		{5 * circle, -5*circle + 3, 2, 2},
		{least, greatest, 10, circle - 1},
		{greatest, least, 10, 0},
		{least, 100, 10, 10},
		{100, least, 10, 90},
		{greatest, 100, 10, 9},
		{100, greatest, 10, 90},
		{100, greatest, greatest, circle - 1},
		{greatest, greatest, greatest, circle - 1},
		{least, least, least, 0},
	} {
		if a := trig.Toward(c.from, c.to, c.most); a != c.want {
			t.Errorf("Toward(%d, %d, %d): %d, want %d", c.from, c.to, c.most, a, c.want)
		}
	}
}

// toward is the angle that is reached, by the chapter's words: the way up and the way down are held against each other.
func toward(from, to, most int64) int64 {
	start, end := remainder(big.NewInt(from)), remainder(big.NewInt(to))
	up, down := (end+circle-start)%circle, (start+circle-end)%circle
	switch {
	case most < 0:
		return start
	case most >= min(up, down):
		return end
	case up <= down:
		return (start + most) % circle
	}
	return (start + circle - most) % circle
}

func TestTowardByItsWords(t *testing.T) { // P3.4
	for _, from := range angles() {
		for _, to := range angles() {
			for _, most := range angles() {
				if a, want := trig.Toward(from, to, most), toward(from, to, most); a != want {
					t.Fatalf("Toward(%d, %d, %d): %d, want %d", from, to, most, a, want)
				}
			}
		}
	}
}

func TestHalfTurnChangesSigns(t *testing.T) { // P3.5
	for a := range int64(circle) {
		if trig.Sin(a+half) != -trig.Sin(a) || trig.Cos(a+half) != -trig.Cos(a) {
			t.Fatalf("half a turn from %d: %d, %d, and %d, %d", a, trig.Sin(a), trig.Cos(a), trig.Sin(a+half), trig.Cos(a+half))
		}
	}
}

func TestSinesGrowInTheFirstQuarter(t *testing.T) { // P3.5
	for a := range int64(quarter) {
		if trig.Sin(a+1) < trig.Sin(a) {
			t.Fatalf("Sin(%d) is %d, Sin(%d) is %d", a, trig.Sin(a), a+1, trig.Sin(a+1))
		}
	}
}

func TestSinesAreAtMostOne(t *testing.T) { // P3.5
	for a := range int64(circle) {
		for _, v := range []int64{trig.Sin(a), trig.Cos(a)} {
			if v < -one || v > one {
				t.Fatalf("at %d there is %d", a, v)
			}
		}
	}
}

func TestTurningReachesTheAngle(t *testing.T) { // P3.5
	ends := []int64{0, 1, quarter, half - 1, half, half + 1, 3 * quarter, circle - 1, 12345, 54321}
	for _, from := range ends {
		for _, to := range ends {
			for _, step := range []int64{1, 2, 77, 1000, half, circle, greatest} {
				a := from
				for range half/min(step, half) + 1 {
					a = trig.Toward(a, to, step)
				}
				if a != to {
					t.Fatalf("from %d to %d by %d: %d is reached", from, to, step, a)
				}
				if stays := trig.Toward(a, to, step); stays != to {
					t.Fatalf("at %d, turned by %d: %d", to, step, stays)
				}
			}
		}
	}
}
