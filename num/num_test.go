package num_test

import (
	"math"
	"math/big"
	"math/rand"
	"testing"

	"bivouac/api"
	"bivouac/num"
)

const (
	least    = math.MinInt64
	greatest = math.MaxInt64
)

type operation func(a, b int64) (int64, api.Errno)

type pairCase struct {
	a, b, want int64
	e          api.Errno
}

func checkPairs(t *testing.T, name string, f operation, cases []pairCase) {
	t.Helper()
	for _, c := range cases {
		if v, e := f(c.a, c.b); v != c.want || e != c.e {
			t.Errorf("%s(%d, %d): %d, %d, want %d, %d", name, c.a, c.b, v, e, c.want, c.e)
		}
	}
}

func TestAdd(t *testing.T) { // P1.1
	checkPairs(t, "Add", num.Add, []pairCase{
		{2, 3, 5, api.OK},
		{-2, 3, 1, api.OK},
		{2, -3, -1, api.OK},
		{-2, -3, -5, api.OK},
		{0, 0, 0, api.OK},
		{greatest, 0, greatest, api.OK},
		{0, least, least, api.OK},
		{greatest - 1, 1, greatest, api.OK},
		{greatest, 1, 0, api.ErrOver},
		{1, greatest, 0, api.ErrOver},
		{greatest, greatest, 0, api.ErrOver},
		{1 << 62, 1<<62 - 1, greatest, api.OK},
		{1 << 62, 1 << 62, 0, api.ErrOver},
		{least + 1, -1, least, api.OK},
		{least, -1, 0, api.ErrOver},
		{-1, least, 0, api.ErrOver},
		{least, least, 0, api.ErrOver},
		{-1 << 62, -1 << 62, least, api.OK},
		{least, greatest, -1, api.OK},
		{greatest, least, -1, api.OK},
	})
}

func TestSub(t *testing.T) { // P1.1
	checkPairs(t, "Sub", num.Sub, []pairCase{
		{2, 3, -1, api.OK},
		{-2, 3, -5, api.OK},
		{2, -3, 5, api.OK},
		{-2, -3, 1, api.OK},
		{0, greatest, -greatest, api.OK},
		{-1, greatest, least, api.OK},
		{-2, greatest, 0, api.ErrOver},
		{greatest, -1, 0, api.ErrOver},
		{greatest - 1, -1, greatest, api.OK},
		{greatest, least, 0, api.ErrOver},
		{greatest, greatest, 0, api.OK},
		{least, 1, 0, api.ErrOver},
		{least + 1, 1, least, api.OK},
		{least, least, 0, api.OK},
		{least, greatest, 0, api.ErrOver},
		{least, 0, least, api.OK},
		{-1, least, greatest, api.OK},
		{0, least, 0, api.ErrOver},
	})
}

func TestMul(t *testing.T) { // P1.1
	checkPairs(t, "Mul", num.Mul, []pairCase{
		{6, 7, 42, api.OK},
		{-6, 7, -42, api.OK},
		{6, -7, -42, api.OK},
		{-6, -7, 42, api.OK},
		{0, least, 0, api.OK},
		{-1, 0, 0, api.OK},
		{1, least, least, api.OK},
		{-1, least, 0, api.ErrOver},
		{least, -1, 0, api.ErrOver},
		{-1, greatest, -greatest, api.OK},
		{1, greatest, greatest, api.OK},
		{2, greatest, 0, api.ErrOver},
		{-2, greatest, 0, api.ErrOver},
		{2, 1 << 62, 0, api.ErrOver},
		{2, 1<<62 - 1, greatest - 1, api.OK},
		{-2, 1 << 62, least, api.OK},
		{-2, 1<<62 + 1, 0, api.ErrOver},
		{7, greatest / 7, greatest, api.OK},
		{1 << 32, 1 << 31, 0, api.ErrOver},
		{1 << 32, -1 << 31, least, api.OK},
		{1 << 32, 1 << 32, 0, api.ErrOver},
		{-1 << 32, 1 << 32, 0, api.ErrOver},
		{greatest, greatest, 0, api.ErrOver},
		{least, least, 0, api.ErrOver},
		{least, greatest, 0, api.ErrOver},
	})
}

func TestDiv(t *testing.T) { // P1.1
	checkPairs(t, "Div", num.Div, []pairCase{
		{7, 2, 3, api.OK},
		{-7, 2, -4, api.OK},
		{7, -2, -4, api.OK},
		{-7, -2, 3, api.OK},
		{8, 2, 4, api.OK},
		{-8, 2, -4, api.OK},
		{8, -2, -4, api.OK},
		{-8, -2, 4, api.OK},
		{0, 5, 0, api.OK},
		{0, -5, 0, api.OK},
		{1, greatest, 0, api.OK},
		{-1, greatest, -1, api.OK},
		{1, least, -1, api.OK},
		{-1, least, 0, api.OK},
		{greatest, least, -1, api.OK},
		{least, greatest, -2, api.OK},
		{least, least, 1, api.OK},
		{greatest, greatest, 1, api.OK},
		{least, 1, least, api.OK},
		{greatest, -1, -greatest, api.OK},
		{least + 1, -1, greatest, api.OK},
		{least, -1, 0, api.ErrOver},
		{5, 0, 0, api.ErrZero},
		{0, 0, 0, api.ErrZero},
		{least, 0, 0, api.ErrZero},
	})
}

func TestMod(t *testing.T) { // P1.1
	checkPairs(t, "Mod", num.Mod, []pairCase{
		{7, 2, 1, api.OK},
		{-7, 2, 1, api.OK},
		{7, -2, -1, api.OK},
		{-7, -2, -1, api.OK},
		{-7, 5, 3, api.OK},
		{7, -5, -3, api.OK},
		{8, 2, 0, api.OK},
		{-8, 2, 0, api.OK},
		{8, -2, 0, api.OK},
		{0, -5, 0, api.OK},
		{1, least, least + 1, api.OK},
		{-1, greatest, greatest - 1, api.OK},
		{greatest, least, -1, api.OK},
		{least, greatest, greatest - 1, api.OK},
		{least, least, 0, api.OK},
		{least, 1, 0, api.OK},
		{least, -1, 0, api.OK},
		{greatest, -1, 0, api.OK},
		{5, 0, 0, api.ErrZero},
		{0, 0, 0, api.ErrZero},
		{least, 0, 0, api.ErrZero},
	})
}

func TestMulDiv(t *testing.T) { // P1.2
	for _, c := range []struct {
		a, b, c, want int64
		e             api.Errno
	}{
		{6, 7, 3, 14, api.OK},
		{0, -5, 3, 0, api.OK},
		{0, 0, -1, 0, api.OK},
		{-1, 1, 3, -1, api.OK},

		// The product needs more than 64 bits, the result fits.
		{1 << 62, 6, 8, 3 << 60, api.OK},
		{greatest, greatest, greatest, greatest, api.OK},
		{greatest, least, greatest, least, api.OK},
		{greatest, greatest, least, -greatest, api.OK},
		{least, least, least, least, api.OK},
		{greatest, greatest - 1, greatest, greatest - 1, api.OK},
		{1 << 40, 1 << 40, 1 << 18, 1 << 62, api.OK},
		{1<<40 + 1, 1 << 40, -1 << 18, -1<<62 - 1<<22, api.OK},

		// Just within and just beyond what fits.
		{greatest, 3, 3, greatest, api.OK},
		{1 << 62, 4, 2, 0, api.ErrOver},
		{1 << 62, -4, 2, least, api.OK},
		{1 << 62, 4, -2, least, api.OK},
		{1 << 62, 4, 1, 0, api.ErrOver},
		{least, -1, 1, 0, api.ErrOver},
		{least, 1, -1, 0, api.ErrOver},
		{least, -1, -1, least, api.OK},
		{least, least, 1, 0, api.ErrOver},
		{least, least, greatest, 0, api.ErrOver},
		{least, least, -greatest, 0, api.ErrOver},
		{least, greatest, greatest - 1, 0, api.ErrOver},
		// 2^63 - 1/3 fits once it is rounded down; so does its negative.
		{88971434439113593, 311, 3, greatest, api.OK},
		{88971434439113593, -311, 3, least, api.OK},
		// 2^63 + 1/3 does not fit; nor does its negative, since rounded down it is -2^63 - 1.
		{27893965181143, 991975, 3, 0, api.ErrOver},
		{27893965181143, -991975, 3, 0, api.ErrOver},
		// The quotient's low word is all ones until it is rounded away from zero: the carry must not be lost.
		{-(1<<40 - 1), 1<<40 + 1, 1 << 16, 0, api.ErrOver},

		{1, 1, 0, 0, api.ErrZero},
		{0, 0, 0, 0, api.ErrZero},
		{greatest, greatest, 0, 0, api.ErrZero},
		{least, greatest, 0, 0, api.ErrZero},
	} {
		if v, e := num.MulDiv(c.a, c.b, c.c); v != c.want || e != c.e {
			t.Errorf("MulDiv(%d, %d, %d): %d, %d, want %d, %d", c.a, c.b, c.c, v, e, c.want, c.e)
		}
	}
}

func TestMulDivSigns(t *testing.T) { // P1.2
	for _, c := range []struct{ a, b, c, up, down int64 }{
		{6, 4, 3, 8, -8},
		{5, 7, 3, 11, -12},
		{1, 1, 3, 0, -1},
		{1 << 50, 1 << 50, 1 << 40, 1 << 60, -1 << 60},
		{1<<50 + 1, 1 << 50, 1<<51 + 2, 1 << 49, -1 << 49},
		{1 << 50, 1 << 50, 1<<40 + 1, 1<<60 - 1<<20, -1<<60 + 1<<20 - 1},
	} {
		for signs := range 8 {
			a, b, d, want := c.a, c.b, c.c, c.up
			if signs&1 != 0 {
				a = -a
			}
			if signs&2 != 0 {
				b = -b
			}
			if signs&4 != 0 {
				d = -d
			}
			if (a < 0) != (b < 0) != (d < 0) {
				want = c.down
			}
			if v, e := num.MulDiv(a, b, d); v != want || e != api.OK {
				t.Errorf("MulDiv(%d, %d, %d): %d, %d, want %d", a, b, d, v, e, want)
			}
		}
	}
}

func TestClamp(t *testing.T) { // P1.3
	for _, c := range []struct{ v, least, most, want int64 }{
		{0, 1, 3, 1},
		{1, 1, 3, 1},
		{2, 1, 3, 2},
		{3, 1, 3, 3},
		{4, 1, 3, 3},
		{-9, -7, -5, -7},
		{-6, -7, -5, -6},
		{0, -7, -5, -5},
		{least, 1, 3, 1},
		{greatest, 1, 3, 3},
		{least, least, greatest, least},
		{greatest, least, greatest, greatest},
		{0, least, greatest, 0},
		{0, 2, 2, 2},
		{2, 2, 2, 2},
		{5, 2, 2, 2},
		// most is below least
		{0, 3, 1, 3},
		{1, 3, 1, 3},
		{2, 3, 1, 3},
		{3, 3, 1, 1},
		{4, 3, 1, 1},
		{0, greatest, least, greatest},
		{greatest, greatest, least, least},
	} {
		if v := num.Clamp(c.v, c.least, c.most); v != c.want {
			t.Errorf("Clamp(%d, %d, %d): %d, want %d", c.v, c.least, c.most, v, c.want)
		}
	}
}

// numbers are the edges of what fits, their neighbours, the neighbours of powers of two, and some of every length.
func numbers() []int64 {
	out := []int64{0, 3, -3, 7, -7, 10, -10}
	for _, bit := range []int{0, 1, 15, 16, 31, 32, 33, 47, 61, 62, 63} {
		p := int64(1) << bit
		out = append(out, p-1, p, p+1, -p-1, -p, -p+1)
	}
	r := rand.New(rand.NewSource(1))
	for shift := range 32 {
		out = append(out, int64(r.Uint64())>>(2*shift))
	}
	return out
}

// divideDown is the quotient rounded down and its remainder, of unbounded numbers.
func divideDown(a, b *big.Int) (*big.Int, *big.Int) {
	q, r := new(big.Int).QuoRem(a, b, new(big.Int))
	if r.Sign() != 0 && r.Sign() != b.Sign() {
		q.Sub(q, big.NewInt(1))
		r.Add(r, b)
	}
	return q, r
}

func checkExact(t *testing.T, name string, v int64, e api.Errno, want *big.Int, args ...int64) {
	t.Helper()
	fits := want.IsInt64()
	if fits && (e != api.OK || v != want.Int64()) || !fits && (e != api.ErrOver || v != 0) {
		t.Fatalf("%s%v: %d, %d, exactly it is %v", name, args, v, e, want)
	}
}

func TestAgainstUnboundedNumbers(t *testing.T) { // P1.1
	for _, a := range numbers() {
		for _, b := range numbers() {
			x, y := big.NewInt(a), big.NewInt(b)
			v, e := num.Add(a, b)
			checkExact(t, "Add", v, e, new(big.Int).Add(x, y), a, b)
			v, e = num.Sub(a, b)
			checkExact(t, "Sub", v, e, new(big.Int).Sub(x, y), a, b)
			v, e = num.Mul(a, b)
			checkExact(t, "Mul", v, e, new(big.Int).Mul(x, y), a, b)
			if b == 0 {
				continue
			}
			q, r := divideDown(x, y)
			v, e = num.Div(a, b)
			checkExact(t, "Div", v, e, q, a, b)
			v, e = num.Mod(a, b)
			checkExact(t, "Mod", v, e, r, a, b)
		}
	}
}

func TestMulDivAgainstUnboundedNumbers(t *testing.T) { // P1.2
	for _, a := range numbers() {
		for _, b := range numbers() {
			p := new(big.Int).Mul(big.NewInt(a), big.NewInt(b))
			for _, c := range numbers() {
				v, e := num.MulDiv(a, b, c)
				if c == 0 {
					if v != 0 || e != api.ErrZero {
						t.Fatalf("MulDiv(%d, %d, 0): %d, %d", a, b, v, e)
					}
					continue
				}
				q, _ := divideDown(p, big.NewInt(c))
				checkExact(t, "MulDiv", v, e, q, a, b, c)
			}
		}
	}
}

func TestRemainder(t *testing.T) { // P1.4
	for _, a := range numbers() {
		for _, b := range numbers() {
			if b == 0 {
				continue
			}
			r, e := num.Mod(a, b)
			if e != api.OK {
				t.Fatalf("Mod(%d, %d): error %d", a, b, e)
			}
			if r != 0 && (r < 0) != (b < 0) {
				t.Fatalf("Mod(%d, %d): %d has not the sign of %d", a, b, r, b)
			}
			if big.NewInt(r).CmpAbs(big.NewInt(b)) >= 0 {
				t.Fatalf("Mod(%d, %d): %d is not smaller than %d", a, b, r, b)
			}
		}
	}
}

func TestAddThenSub(t *testing.T) { // P1.4
	checked := 0
	for _, a := range numbers() {
		for _, b := range numbers() {
			if sum, e := num.Add(a, b); e == api.OK {
				if v, e := num.Sub(sum, b); v != a || e != api.OK {
					t.Fatalf("%d plus and minus %d: %d, %d", a, b, v, e)
				}
				checked++
			}
			if difference, e := num.Sub(a, b); e == api.OK {
				if v, e := num.Add(difference, b); v != a || e != api.OK {
					t.Fatalf("%d minus and plus %d: %d, %d", a, b, v, e)
				}
				checked++
			}
		}
	}
	if checked == 0 {
		t.Error("nothing fitted")
	}
}
