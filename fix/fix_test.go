package fix_test

import (
	"math"
	"math/big"
	"math/rand"
	"testing"

	"bivouac/api"
	"bivouac/fix"
)

const (
	one      = api.One
	far      = api.Far
	wide     = api.Wide
	least    = math.MinInt64
	greatest = math.MaxInt64
)

type pairCase struct {
	a, b, want int64
	e          api.Errno
}

func checkPairs(t *testing.T, name string, f func(a, b int64) (int64, api.Errno), cases []pairCase) {
	t.Helper()
	for _, c := range cases {
		if v, e := f(c.a, c.b); v != c.want || e != c.e {
			t.Errorf("%s(%d, %d): %d, %d, want %d, %d", name, c.a, c.b, v, e, c.want, c.e)
		}
	}
}

func TestMul(t *testing.T) { // P2.1
	checkPairs(t, "Mul", fix.Mul, []pairCase{
		{one / 2, one / 2, one / 4, api.OK},
		{3 * one, 5 * one, 15 * one, api.OK},
		{-3 * one, 5 * one, -15 * one, api.OK},
		{3 * one, -5 * one, -15 * one, api.OK},
		{-3 * one, -5 * one, 15 * one, api.OK},
		{0, least, 0, api.OK},
		{greatest, 0, 0, api.OK},

		// With a rest.
		{1, 1, 0, api.OK},
		{-1, 1, -1, api.OK},
		{1, -1, -1, api.OK},
		{-1, -1, 0, api.OK},
		{one + 1, one + 1, one + 2, api.OK},
		{-one - 1, one + 1, -one - 3, api.OK},
		{one - 1, one - 1, one - 2, api.OK},
		{one - 1, -one + 1, -one + 1, api.OK},

		// The product needs more than 64 bits, the result fits.
		{1 << 39, 1 << 39, 1 << 62, api.OK},
		{1<<39 + 1, 1<<39 + 1, 1<<62 + 1<<24, api.OK},
		{1<<39 + 1, -1<<39 - 1, -1<<62 - 1<<24 - 1, api.OK},
		{greatest, one, greatest, api.OK},
		{least, one, least, api.OK},
		{greatest, -one, -greatest, api.OK},
		{greatest, 1, 1<<47 - 1, api.OK},
		{least, 1, -1 << 47, api.OK},
		{least, one - 1, least + 1<<47, api.OK},

		// Just within and just beyond what fits.
		{1 << 62, 2*one - 1, greatest - 1<<46 + 1, api.OK},
		{1 << 62, 2 * one, 0, api.ErrOver},
		{1 << 62, -2 * one, least, api.OK},
		{1 << 62, -2*one - 1, 0, api.ErrOver},
		{1<<62 - 1, 2 * one, greatest - 1, api.OK},
		{least, -one, 0, api.ErrOver},
		{least + 1, -one, greatest, api.OK},
		{greatest, one + 1, 0, api.ErrOver},
		{least, one + 1, 0, api.ErrOver},
		{1 << 62, 1 << 62, 0, api.ErrOver},
		{greatest, greatest, 0, api.ErrOver},
		{least, greatest, 0, api.ErrOver},
		{least, least, 0, api.ErrOver},
	})
}

func TestDiv(t *testing.T) { // P2.1
	checkPairs(t, "Div", fix.Div, []pairCase{
		{15 * one, 5 * one, 3 * one, api.OK},
		{-15 * one, 5 * one, -3 * one, api.OK},
		{15 * one, -5 * one, -3 * one, api.OK},
		{-15 * one, -5 * one, 3 * one, api.OK},
		{one, 2 * one, one / 2, api.OK},
		{one, one / 2, 2 * one, api.OK},
		{0, 5, 0, api.OK},
		{0, least, 0, api.OK},

		// With a rest.
		{one, 3 * one, 21845, api.OK},
		{-one, 3 * one, -21846, api.OK},
		{one, -3 * one, -21846, api.OK},
		{-one, -3 * one, 21845, api.OK},
		{1, greatest, 0, api.OK},
		{-1, greatest, -1, api.OK},
		{1, least, -1, api.OK},
		{-1, least, 0, api.OK},

		// What is divided needs more than 64 bits, the result fits.
		{greatest, one, greatest, api.OK},
		{least, one, least, api.OK},
		{greatest, greatest, one, api.OK},
		{least, least, one, api.OK},
		{greatest, least, -one, api.OK},
		{least, greatest, -one - 1, api.OK},
		{1 << 60, 3 * one, 1 << 60 / 3, api.OK},
		{-1 << 60, 3 * one, -1<<60/3 - 1, api.OK},

		// Just within and just beyond what fits.
		{1<<47 - 1, 1, greatest - one + 1, api.OK},
		{1 << 47, 1, 0, api.ErrOver},
		{1 << 47, -1, least, api.OK},
		{1<<47 + 1, -1, 0, api.ErrOver},
		{-1 << 47, 1, least, api.OK},
		{-1<<47 - 1, 1, 0, api.ErrOver},
		{-1 << 47, -1, 0, api.ErrOver},
		{greatest, one - 1, 0, api.ErrOver},
		{greatest, one + 1, 1<<63 - 1<<47 + 1<<31 - 1<<15 - 1, api.OK},
		{least, -one, 0, api.ErrOver},
		{least, one - 1, 0, api.ErrOver},

		{1, 0, 0, api.ErrZero},
		{0, 0, 0, api.ErrZero},
		{-one, 0, 0, api.ErrZero},
		{greatest, 0, 0, api.ErrZero},
		{least, 0, 0, api.ErrZero},
	})
}

func TestLerp(t *testing.T) { // P2.2
	for _, c := range []struct {
		a, b, t, want int64
		e             api.Errno
	}{
		{10, 20, 0, 10, api.OK},
		{10, 20, one, 20, api.OK},
		{10, 20, one / 2, 15, api.OK},
		{10, 20, one/2 - 1, 14, api.OK},
		{10, 20, 1, 10, api.OK},
		{10, 20, one - 1, 19, api.OK},
		{-20, -10, one / 4, -18, api.OK},
		{7, 7, one / 3, 7, api.OK},

		// With b below a, down is towards b.
		{20, 11, one / 2, 15, api.OK},
		{20, 10, 1, 19, api.OK},
		{20, 10, one - 1, 10, api.OK},
		{20, 10, 0, 20, api.OK},
		{20, 10, one, 10, api.OK},
		{5, -5, one / 2, 0, api.OK},
		{5, -6, one / 2, -1, api.OK},

		// Outside.
		{10, 20, -one, 0, api.OK},
		{10, 20, -1, 9, api.OK},
		{10, 20, 2 * one, 30, api.OK},
		{10, 20, one + 1, 20, api.OK},
		{20, 10, -one, 30, api.OK},
		{20, 10, -1, 20, api.OK},
		{20, 10, 2 * one, 0, api.OK},
		{20, 10, one + 1, 9, api.OK},
		{0, 0, greatest, 0, api.OK},
		{least, least, least, least, api.OK},

		// The product with t needs more than 64 bits, the result fits.
		{0, greatest, one, greatest, api.OK},
		{0, greatest, one / 2, 1<<62 - 1, api.OK},
		{least, -1, one, -1, api.OK},
		{-1, least, one, least, api.OK},
		{greatest, 0, one, 0, api.OK},
		{-1, greatest - 1, one, greatest - 1, api.OK},

		// b minus a does not fit, although what follows would.
		{least, greatest, 0, 0, api.ErrOver},
		{greatest, least, one, 0, api.ErrOver},
		{-1, greatest, 0, 0, api.ErrOver},
		{1, least, 0, 0, api.ErrOver},
		{0, least, 0, 0, api.OK},

		// The product does not fit, although the sum would.
		{-1 << 62, 1<<62 - 1, one + 1, 0, api.ErrOver},
		{1 << 62, -1 << 62, one + 1, 0, api.ErrOver},
		{-1 << 62, least, -2 * one, 0, api.ErrOver},
		{0, 1 << 62, 2 * one, 0, api.ErrOver},
		{0, 1 << 62, -2 * one, least, api.OK},
		{0, greatest, greatest, 0, api.ErrOver},

		// The sum does not fit.
		{greatest, greatest - 1, -one, 0, api.ErrOver},
		{greatest - 1, greatest - 2, -one, greatest, api.OK},
		{greatest - 1, greatest, 2 * one, 0, api.ErrOver},
		{greatest - 1, greatest, 2*one - 1, greatest, api.OK},
		{least, least + 1, -one, 0, api.ErrOver},
		{least, least + 1, -1, 0, api.ErrOver},
		{least + 1, least + 2, -one, least, api.OK},
		{least + 1, least, 2 * one, 0, api.ErrOver},
		{1 << 62, 3 << 61, 2 * one, 0, api.ErrOver},
	} {
		if v, e := fix.Lerp(c.a, c.b, c.t); v != c.want || e != c.e {
			t.Errorf("Lerp(%d, %d, %d): %d, %d, want %d, %d", c.a, c.b, c.t, v, e, c.want, c.e)
		}
	}
}

func TestWholeAndPart(t *testing.T) { // P2.3
	for _, c := range []struct{ a, whole, part int64 }{
		{0, 0, 0},
		{1, 0, 1},
		{one - 1, 0, one - 1},
		{one, 1, 0},
		{one + 1, 1, 1},
		{3*one - 1, 2, one - 1},
		{3 * one, 3, 0},
		{3*one + 5, 3, 5},
		{-1, -1, one - 1},
		{-one + 1, -1, 1},
		{-one, -1, 0},
		{-one - 1, -2, one - 1},
		{-3*one + 1, -3, 1},
		{-3 * one, -3, 0},
		{-3*one - 1, -4, one - 1},
		{greatest, 1<<47 - 1, one - 1},
		{least, -1 << 47, 0},
		{least + 1, -1 << 47, 1},
	} {
		if v := fix.Whole(c.a); v != c.whole {
			t.Errorf("Whole(%d): %d, want %d", c.a, v, c.whole)
		}
		if v := fix.Part(c.a); v != c.part {
			t.Errorf("Part(%d): %d, want %d", c.a, v, c.part)
		}
	}
}

func TestRoot(t *testing.T) { // P2.4
	roots := []uint64{1, 2, 3, 4, 5, 9, 10, 255, 256, 257, 65535, 65536, 65537, 1<<31 - 1, 1 << 31, 1<<31 + 1, 1<<32 - 2, 1<<32 - 1}
	r := rand.New(rand.NewSource(2))
	for shift := range 31 {
		roots = append(roots, max(uint64(r.Uint32()>>shift), 1))
	}
	for _, root := range roots {
		for _, c := range []struct{ n, want uint64 }{
			{root*root - 1, root - 1},
			{root * root, root},
			{root*root + 1, root},
			{root*root + 2*root, root},
		} {
			if v := fix.Root(c.n); v != c.want {
				t.Errorf("Root(%d): %d, want %d", c.n, v, c.want)
			}
		}
	}
	if v := fix.Root(0); v != 0 {
		t.Errorf("Root(0): %d", v)
	}
	if v := fix.Root(math.MaxUint64); v != 1<<32-1 {
		t.Errorf("Root of the greatest: %d", v)
	}
}

func TestSqrt(t *testing.T) { // P2.4
	for _, c := range []struct {
		a, want int64
		e       api.Errno
	}{
		{0, 0, api.OK},
		{1, 256, api.OK},
		{2, 362, api.OK},
		{4, 512, api.OK},
		{one / 4, one / 2, api.OK},
		{one - 1, one - 1, api.OK},
		{one, one, api.OK},
		{one + 1, one, api.OK},
		{one + 2, one, api.OK},
		{one + 3, one + 1, api.OK},
		{2 * one, 92681, api.OK},
		{9 * one, 3 * one, api.OK},
		{9*one - 1, 3*one - 1, api.OK},
		{wide - 1, 1<<31 - 1, api.OK},
		{wide / 4, 1 << 30, api.OK},
		{wide, 0, api.ErrOver},
		{wide + 1, 0, api.ErrOver},
		{1 << 48, 0, api.ErrOver},
		{greatest, 0, api.ErrOver},
		{-1, 0, api.ErrArg},
		{-one, 0, api.ErrArg},
		{-wide, 0, api.ErrArg},
		{least, 0, api.ErrArg},
	} {
		if v, e := fix.Sqrt(c.a); v != c.want || e != c.e {
			t.Errorf("Sqrt(%d): %d, %d, want %d, %d", c.a, v, e, c.want, c.e)
		}
	}
}

func TestLength(t *testing.T) { // P2.4
	checkPairs(t, "Length", fix.Length, []pairCase{
		{0, 0, 0, api.OK},
		{3, 4, 5, api.OK},
		{-3, 4, 5, api.OK},
		{3, -4, 5, api.OK},
		{-3, -4, 5, api.OK},
		{1, 1, 1, api.OK},
		{-1, 1, 1, api.OK},
		{2, 2, 2, api.OK},
		{0, -7, 7, api.OK},
		{7, 0, 7, api.OK},
		{one, one, 92681, api.OK},
		{far, 0, far, api.OK},
		{0, -far, far, api.OK},
		{far, 1, far, api.OK},
		{far, far, 1518500249, api.OK},
		{-far, far, 1518500249, api.OK},
		{far, -far, 1518500249, api.OK},
		{-far, -far, 1518500249, api.OK},
		{far + 1, 0, 0, api.ErrOver},
		{0, far + 1, 0, api.ErrOver},
		{-far - 1, 0, 0, api.ErrOver},
		{0, -far - 1, 0, api.ErrOver},
		{far, far + 1, 0, api.ErrOver},
		{-far - 1, -far, 0, api.ErrOver},
		{greatest, 0, 0, api.ErrOver},
		{0, greatest, 0, api.ErrOver},
		{least, 0, 0, api.ErrOver},
		{0, least, 0, api.ErrOver},
		{least, greatest, 0, api.ErrOver},
		// The square of 2^32 is 0 in 64 bits.
		{1 << 32, 0, 0, api.ErrOver},
		{0, -1 << 32, 0, api.ErrOver},
	})
}

// numbers are the edges of what fits, the neighbours of powers of two, and some of every length.
func numbers() []int64 {
	out := []int64{0, 3, -3, 7, -7, 3 * one, -3 * one}
	for _, bit := range []int{0, 1, 15, 16, 17, 29, 30, 31, 39, 46, 47, 48, 61, 62, 63} {
		p := int64(1) << bit
		out = append(out, p-1, p, p+1, -p-1, -p, -p+1)
	}
	r := rand.New(rand.NewSource(1))
	for shift := range 32 {
		out = append(out, int64(r.Uint64())>>(2*shift))
	}
	return out
}

// divideDown is the quotient rounded down, of unbounded numbers.
func divideDown(a, b *big.Int) *big.Int {
	q, r := new(big.Int).QuoRem(a, b, new(big.Int))
	if r.Sign() != 0 && r.Sign() != b.Sign() {
		q.Sub(q, big.NewInt(1))
	}
	return q
}

func checkExact(t *testing.T, name string, v int64, e api.Errno, want *big.Int, args ...int64) {
	t.Helper()
	fits := want.IsInt64()
	if fits && (e != api.OK || v != want.Int64()) || !fits && (e != api.ErrOver || v != 0) {
		t.Fatalf("%s%v: %d, %d, exactly it is %v", name, args, v, e, want)
	}
}

func TestAgainstUnboundedNumbers(t *testing.T) { // P2.1
	for _, a := range numbers() {
		for _, b := range numbers() {
			x, y := big.NewInt(a), big.NewInt(b)
			v, e := fix.Mul(a, b)
			checkExact(t, "Mul", v, e, divideDown(new(big.Int).Mul(x, y), big.NewInt(one)), a, b)
			v, e = fix.Div(a, b)
			if b != 0 {
				checkExact(t, "Div", v, e, divideDown(new(big.Int).Mul(x, big.NewInt(one)), y), a, b)
			} else if v != 0 || e != api.ErrZero {
				t.Fatalf("Div(%d, 0): %d, %d", a, v, e)
			}
		}
	}
}

func TestLerpAgainstUnboundedNumbers(t *testing.T) { // P2.2
	for _, a := range numbers() {
		for _, b := range numbers() {
			way := new(big.Int).Sub(big.NewInt(b), big.NewInt(a))
			for _, part := range numbers() {
				gone := divideDown(new(big.Int).Mul(way, big.NewInt(part)), big.NewInt(one))
				v, e := fix.Lerp(a, b, part)
				if way.IsInt64() && gone.IsInt64() {
					checkExact(t, "Lerp", v, e, gone.Add(gone, big.NewInt(a)), a, b, part)
				} else if v != 0 || e != api.ErrOver {
					t.Fatalf("Lerp(%d, %d, %d): %d, %d", a, b, part, v, e)
				}
			}
		}
	}
}

func TestWholeAndPartMakeTheNumber(t *testing.T) { // P2.3
	for _, a := range numbers() {
		whole, part := fix.Whole(a), fix.Part(a)
		if part < 0 || part >= one || whole*one+part != a {
			t.Errorf("%d is %d and %d", a, whole, part)
		}
	}
}

func TestRootsAgainstUnboundedNumbers(t *testing.T) { // P2.4
	for _, a := range numbers() {
		n := uint64(a)
		if v, want := fix.Root(n), new(big.Int).Sqrt(new(big.Int).SetUint64(n)); v != want.Uint64() {
			t.Errorf("Root(%d): %d, want %v", n, v, want)
		}
		if a >= 0 && a < wide {
			v, e := fix.Sqrt(a)
			checkExact(t, "Sqrt", v, e, new(big.Int).Sqrt(new(big.Int).Mul(big.NewInt(a), big.NewInt(one))), a)
		}
		for _, b := range numbers() {
			if min(a, b) < -far || max(a, b) > far {
				continue
			}
			x, y := big.NewInt(a), big.NewInt(b)
			v, e := fix.Length(a, b)
			checkExact(t, "Length", v, e, new(big.Int).Sqrt(x.Add(x.Mul(x, x), y.Mul(y, y))), a, b)
		}
	}
}

func TestEndsOfLerp(t *testing.T) { // P2.5
	checked := 0
	for _, a := range numbers() {
		for _, b := range numbers() {
			if v, e := fix.Lerp(a, b, 0); e == api.OK {
				checked++
				if v != a {
					t.Fatalf("Lerp(%d, %d, 0): %d", a, b, v)
				}
			}
			if v, e := fix.Lerp(a, b, one); e == api.OK {
				checked++
				if v != b {
					t.Fatalf("Lerp(%d, %d, One): %d", a, b, v)
				}
			}
		}
	}
	if checked == 0 {
		t.Error("nothing fitted")
	}
}

func TestLengthAmidItsComponents(t *testing.T) { // P2.5
	checked := 0
	for _, x := range numbers() {
		for _, y := range numbers() {
			v, e := fix.Length(x, y)
			if e != api.OK {
				continue
			}
			checked++
			across, up := max(x, -x), max(y, -y)
			if v < across || v < up || v > across+up {
				t.Fatalf("Length(%d, %d): %d", x, y, v)
			}
		}
	}
	if checked == 0 {
		t.Error("nothing fitted")
	}
}
