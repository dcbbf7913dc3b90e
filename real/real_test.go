package real_test

import (
	"math"
	"math/big"
	"math/rand"
	"testing"

	"bivouac/api"
	"bivouac/real"
)

const (
	wide = api.Wide
	part = 1.0 / api.One // what a fixed number counts
	top  = 1 << 30       // the first whole above the range
)

var negativeZero = math.Copysign(0, -1)

func above(f float64) float64 { return math.Nextafter(f, math.Inf(1)) }
func below(f float64) float64 { return math.Nextafter(f, math.Inf(-1)) }

type floatCase struct {
	f    float64
	want int64
	e    api.Errno
}

func checkFloats(t *testing.T, name string, call func(f float64) (int64, api.Errno), cases []floatCase) {
	t.Helper()
	for _, c := range cases {
		if v, e := call(c.f); v != c.want || e != c.e {
			t.Errorf("%s(%g, bits %x): %d, %d, want %d, %d", name, c.f, math.Float64bits(c.f), v, e, c.want, c.e)
		}
	}
}

// What is no number of the range, for Of and for Near.
func outside() []floatCase {
	return []floatCase{
		{math.NaN(), 0, api.ErrNaN},
		{math.Float64frombits(0x7ff8000000000000), 0, api.ErrNaN},
		{math.Float64frombits(0xfff8000000000000), 0, api.ErrNaN},
		{math.Float64frombits(0x7ff0000000000001), 0, api.ErrNaN},
		{math.Float64frombits(0xfff0000000000001), 0, api.ErrNaN},
		{math.Float64frombits(0x7fffffffffffffff), 0, api.ErrNaN},
		{math.Float64frombits(0xffffffffffffffff), 0, api.ErrNaN},
		{math.Inf(1), 0, api.ErrOver},
		{math.Inf(-1), 0, api.ErrOver},
		{math.MaxFloat64, 0, api.ErrOver},
		{-math.MaxFloat64, 0, api.ErrOver},
		{1 << 47, 0, api.ErrOver}, // in range if it counted parts
		{1 << 48, 0, api.ErrOver}, // beyond an int64 in 65536ths
		{-1 << 48, 0, api.ErrOver},
		{top, 0, api.ErrOver},
		{above(top), 0, api.ErrOver},
		{below(-top), 0, api.ErrOver},
		{-top - part, 0, api.ErrOver},
		{-top - part/2, 0, api.ErrOver},
		{-top - part/4, 0, api.ErrOver},
	}
}

func TestOf(t *testing.T) { // P4.1
	checkFloats(t, "Of", real.Of, outside())
	checkFloats(t, "Of", real.Of, []floatCase{
		{0, 0, api.OK},
		{negativeZero, 0, api.OK},
		{1.5, 98304, api.OK},
		{-1.5, -98304, api.OK},
		{0.1, 6553, api.OK},
		{-0.1, -6554, api.OK},
		{-0.00001, -1, api.OK},
		{0.00001, 0, api.OK},

		// Floats with no leading bit, and the least that has one.
		{math.SmallestNonzeroFloat64, 0, api.OK},
		{-math.SmallestNonzeroFloat64, -1, api.OK},
		{0x1p-1022, 0, api.OK},
		{-0x1p-1022, -1, api.OK},
		{below(0x1p-1022), 0, api.OK},
		{-below(0x1p-1022), -1, api.OK},

		// About fixed numbers.
		{below(part), 0, api.OK},
		{part, 1, api.OK},
		{above(part), 1, api.OK},
		{below(-part), -2, api.OK},
		{-part, -1, api.OK},
		{above(-part), -1, api.OK},
		{below(1), 65535, api.OK},
		{1, 65536, api.OK},
		{above(1), 65536, api.OK},
		{below(-1), -65537, api.OK},
		{-1, -65536, api.OK},
		{above(-1), -65536, api.OK},
		{below(7 + 3*part), 458754, api.OK},
		{7 + 3*part, 458755, api.OK},
		{above(7 + 3*part), 458755, api.OK},
		{below(-7 - 3*part), -458756, api.OK},
		{-7 - 3*part, -458755, api.OK},
		{above(-7 - 3*part), -458755, api.OK},

		// The halves: not the nearest number.
		{part / 2, 0, api.OK},
		{-part / 2, -1, api.OK},
		{1.75 * part, 1, api.OK},
		{-1.25 * part, -2, api.OK},

		// The edges of the range.
		{-top, -wide, api.OK},
		{above(-top), -wide, api.OK},
		{-top + part, -wide + 1, api.OK},
		{below(-top + part), -wide, api.OK},
		{top - part, wide - 1, api.OK},
		{below(top - part), wide - 2, api.OK},
		{above(top - part), wide - 1, api.OK},
		{below(top), wide - 1, api.OK},
	})
}

func TestBits(t *testing.T) { // P4.1
	for _, c := range []struct {
		b    uint64
		want int64
		e    api.Errno
	}{
		{0, 0, api.OK},
		{1 << 63, 0, api.OK},
		{1, 0, api.OK},
		{1<<63 | 1, -1, api.OK},
		{1<<52 - 1, 0, api.OK},
		{1<<63 | 1<<52 - 1, -1, api.OK},
		{0x3ff0000000000000, 65536, api.OK},
		{0x3ff8000000000000, 98304, api.OK},
		{0xbff8000000000000, -98304, api.OK},
		{0x3fefffffffffffff, 65535, api.OK},
		{0xbfefffffffffffff, -65536, api.OK},
		{0xbff0000000000001, -65537, api.OK},
		{0x41cfffffffffffff, wide - 1, api.OK},
		{0x41d0000000000000, 0, api.ErrOver},
		{0xc1d0000000000000, -wide, api.OK},
		{0xc1d0000000000001, 0, api.ErrOver},
		{0x7fefffffffffffff, 0, api.ErrOver},
		{0xffefffffffffffff, 0, api.ErrOver},
		{0x7ff0000000000000, 0, api.ErrOver},
		{0xfff0000000000000, 0, api.ErrOver},
		{0x7ff0000000000001, 0, api.ErrNaN},
		{0xfff0000000000001, 0, api.ErrNaN},
		{0x7ff8000000000000, 0, api.ErrNaN},
		{0xfff8000000000000, 0, api.ErrNaN},
		{0x7fffffffffffffff, 0, api.ErrNaN},
		{0xffffffffffffffff, 0, api.ErrNaN},
	} {
		if v, e := real.Bits(c.b); v != c.want || e != c.e {
			t.Errorf("Bits(%x): %d, %d, want %d, %d", c.b, v, e, c.want, c.e)
		}
	}
}

func TestTo(t *testing.T) { // P4.2
	for _, c := range []struct {
		v    int64
		want float64
		e    api.Errno
	}{
		{0, 0, api.OK}, // by its bits the positive zero
		{1, part, api.OK},
		{-1, -part, api.OK},
		{32768, 0.5, api.OK},
		{-32768, -0.5, api.OK},
		{65535, 1 - part, api.OK},
		{-65535, -1 + part, api.OK},
		{65536, 1, api.OK},
		{-65536, -1, api.OK},
		{65537, 1 + part, api.OK},
		{-65537, -1 - part, api.OK},
		{98304, 1.5, api.OK},
		{-98304, -1.5, api.OK},
		{1 << 32, 65536, api.OK},
		{wide - 1, top - part, api.OK},
		{wide - 2, top - 2*part, api.OK},
		{-wide + 1, -top + part, api.OK},
		{-wide, -top, api.OK},
		{wide, 0, api.ErrOver},
		{wide + 1, 0, api.ErrOver},
		{-wide - 1, 0, api.ErrOver},
		{1 << 62, 0, api.ErrOver},
		{math.MaxInt64, 0, api.ErrOver},
		{math.MinInt64, 0, api.ErrOver},
	} {
		if f, e := real.To(c.v); math.Float64bits(f) != math.Float64bits(c.want) || e != c.e {
			t.Errorf("To(%d): %g, %d, want %g, %d", c.v, f, e, c.want, c.e)
		}
	}
}

func TestNear(t *testing.T) { // P4.3
	checkFloats(t, "Near", real.Near, outside())
	checkFloats(t, "Near", real.Near, []floatCase{
		{0, 0, api.OK},
		{negativeZero, 0, api.OK},
		{1.5, 98304, api.OK},
		{-1.5, -98304, api.OK},
		{math.SmallestNonzeroFloat64, 0, api.OK},
		{-math.SmallestNonzeroFloat64, 0, api.OK}, // Of answers -1

		// About the middle between two numbers.
		{below(part / 2), 0, api.OK},
		{part / 2, 1, api.OK},
		{above(part / 2), 1, api.OK},
		{below(-part / 2), -1, api.OK},
		{-part / 2, 0, api.OK},
		{above(-part / 2), 0, api.OK},
		{below(1.5 * part), 1, api.OK},
		{1.5 * part, 2, api.OK},
		{above(1.5 * part), 2, api.OK},
		{below(-1.5 * part), -2, api.OK},
		{-1.5 * part, -1, api.OK},
		{above(-1.5 * part), -1, api.OK},
		{below(2.5 * part), 2, api.OK},
		{2.5 * part, 3, api.OK},
		{above(2.5 * part), 3, api.OK},
		{below(-2.5 * part), -3, api.OK},
		{-2.5 * part, -2, api.OK},
		{above(-2.5 * part), -2, api.OK},
		{below(1000 + part/2), 65536000, api.OK},
		{1000 + part/2, 65536001, api.OK},
		{below(-1000 - part/2), -65536001, api.OK},
		{-1000 - part/2, -65536000, api.OK},

		// About fixed numbers, where Of's answer may be the number below.
		{below(part), 1, api.OK},
		{part, 1, api.OK},
		{above(part), 1, api.OK},
		{below(-part), -1, api.OK},
		{-part, -1, api.OK},
		{above(-part), -1, api.OK},
		{1.75 * part, 2, api.OK},
		{-1.25 * part, -1, api.OK},
		{-1.75 * part, -2, api.OK},

		// The edges of the range.
		{-top, -wide, api.OK},
		{above(-top), -wide, api.OK},
		{below(-top + part/2), -wide, api.OK},
		{-top + part/2, -wide + 1, api.OK},
		{-top + part, -wide + 1, api.OK},
		{top - part, wide - 1, api.OK},
		{below(top - part/2), wide - 1, api.OK},
		{top - part/2, 0, api.ErrOver},
		{above(top - part/2), 0, api.ErrOver},
		{below(top), 0, api.ErrOver},
	})
}

// spelled is the value of a float in 65536ths, read off its bits; false for what has no value.
func spelled(b uint64) (*big.Rat, bool) {
	power := int(b >> 52 & 0x7ff)
	digits := new(big.Int).SetUint64(b & (1<<52 - 1))
	if power == 0x7ff {
		return nil, false
	}
	if power == 0 {
		power = 1
	} else {
		digits.SetBit(digits, 52, 1)
	}
	if b>>63 == 1 {
		digits.Neg(digits)
	}
	denominator := big.NewInt(1)
	if power -= 1075 - 16; power >= 0 {
		digits.Lsh(digits, uint(power))
	} else {
		denominator.Lsh(denominator, uint(-power))
	}
	return new(big.Rat).SetFrac(digits, denominator), true
}

// floor is the greatest integer that is not above.
func floor(r *big.Rat) *big.Int {
	return new(big.Int).Div(r.Num(), r.Denom())
}

// byWords is what the chapter says of Of, or, if nearest, of Near.
func byWords(b uint64, nearest bool) (int64, api.Errno) {
	r, ok := spelled(b)
	if !ok && b<<12 != 0 {
		return 0, api.ErrNaN
	}
	limit := big.NewRat(wide, 1)
	if !ok || r.Cmp(limit) >= 0 || r.Cmp(new(big.Rat).Neg(limit)) < 0 {
		return 0, api.ErrOver
	}
	v := floor(r).Int64()
	rest := new(big.Rat).Sub(r, big.NewRat(v, 1))
	if nearest && rest.Cmp(big.NewRat(1, 2)) >= 0 {
		v++
	}
	if v >= wide {
		return 0, api.ErrOver
	}
	return v, api.OK
}

// manyBits are bits of floats of all sizes, of either sign: about each power of two, about numbers and middles of two, and drawn ones.
func manyBits() []uint64 {
	r := rand.New(rand.NewSource(4))
	var all []uint64
	add := func(b uint64) { all = append(all, b, b^1<<63) }
	for power := range uint64(0x800) {
		for _, digits := range []uint64{0, 1, 1<<51 - 1, 1 << 51, 1<<52 - 1, r.Uint64() >> 12} {
			add(power<<52 | digits)
		}
	}
	for range 20000 {
		halves := r.Int63n(2 * wide >> r.Intn(47))
		f := float64(halves) / (2 * api.One)
		for _, g := range []float64{below(f), f, above(f)} {
			add(math.Float64bits(g))
		}
		// Drawn where the range is, so that most of them are in it.
		add(uint64(0x3ff-20+r.Intn(52))<<52 | r.Uint64()>>12)
		add(r.Uint64())
	}
	return all
}

func TestByWords(t *testing.T) { // P4.1, P4.3
	for _, b := range manyBits() {
		f := math.Float64frombits(b)
		want, wantE := byWords(b, false)
		if v, e := real.Of(f); v != want || e != wantE {
			t.Errorf("Of(%g, bits %x): %d, %d, want %d, %d", f, b, v, e, want, wantE)
		}
		if v, e := real.Bits(b); v != want || e != wantE {
			t.Errorf("Bits(%x): %d, %d, want %d, %d", b, v, e, want, wantE)
		}
		want, wantE = byWords(b, true)
		if v, e := real.Near(f); v != want || e != wantE {
			t.Errorf("Near(%g, bits %x): %d, %d, want %d, %d", f, b, v, e, want, wantE)
		}
	}
}

// manyNumbers are numbers that To takes: the edges, about each power of two, and drawn ones.
func manyNumbers() []int64 {
	r := rand.New(rand.NewSource(40))
	all := []int64{0, -wide, -wide + 1, wide - 1}
	for bits := range 46 {
		for _, v := range []int64{1<<bits - 1, 1 << bits, 1<<bits + 1} {
			all = append(all, v, -v)
		}
	}
	for range 20000 {
		all = append(all, r.Int63n(2*wide)-wide, r.Int63n(1<<20)-1<<19)
	}
	return all
}

func TestThereAndBack(t *testing.T) { // P4.2, P4.4
	for _, v := range manyNumbers() {
		f, e := real.To(v)
		if e != api.OK {
			t.Errorf("To(%d): %d", v, e)
			continue
		}
		if r, ok := spelled(math.Float64bits(f)); !ok || r.Cmp(big.NewRat(v, 1)) != 0 {
			t.Errorf("To(%d): %g, which is another number", v, f)
		}
		for name, back := range map[string]func(float64) (int64, api.Errno){"Of": real.Of, "Near": real.Near} {
			if w, e := back(f); w != v || e != api.OK {
				t.Errorf("%s of To(%d): %d, %d", name, v, w, e)
			}
		}
	}
}

func TestOfOrder(t *testing.T) { // P4.4
	check := func(f, g float64) {
		v, e := real.Of(f)
		w, e2 := real.Of(g)
		if f < g && e == api.OK && e2 == api.OK && v > w {
			t.Errorf("Of(%g) is %d, Of(%g) only %d", f, v, g, w)
		}
	}
	r := rand.New(rand.NewSource(44))
	for range 20000 {
		f := (r.Float64() - 0.5) * (2 * top) / float64(int64(1)<<r.Intn(50))
		check(f, above(f))
		check(below(f), f)
		check(f, f+part/3)
		check(f, (r.Float64()-0.5)*(2*top))
	}
}

func TestOfIsJustBelow(t *testing.T) { // P4.4
	in := 0
	for _, b := range manyBits() {
		v, e := real.Bits(b)
		if e != api.OK {
			continue
		}
		in++
		r, _ := spelled(b)
		rest := new(big.Rat).Sub(r, big.NewRat(v, 1))
		if rest.Sign() < 0 || rest.Cmp(big.NewRat(1, 1)) >= 0 {
			t.Errorf("Bits(%x): %d, the float is %s parts above it", b, v, rest)
		}
	}
	if in < 10000 {
		t.Errorf("only %d floats in range", in)
	}
}
