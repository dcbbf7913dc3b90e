package rng_test

import (
	"math"
	"math/big"
	"math/rand"
	"slices"
	"testing"

	"bivouac/api"
	"bivouac/rng"
)

const last = math.MaxUint64

// Numbers at the edges of a word and of its halves.
func edges() []uint64 {
	list := []uint64{0, 1, 2, 3, 10, 255, 256, 257, 1<<32 - 1, 1 << 32, 1<<32 + 1, 1<<63 - 1, 1 << 63, 1<<63 + 1, last - 2, last - 1, last}
	return append(list, 0x9e3779b97f4a7c15, 0xbf58476d1ce4e5b9, 0x94d049bb133111eb)
}

// Seeds whose 0th number is the given one, found by taking the chapter's steps back.
func seedOf(number uint64) uint64 {
	z := unshift(number, 31)
	z = unshift(z*inverse(0x94d049bb133111eb), 27)
	z = unshift(z*inverse(0xbf58476d1ce4e5b9), 30)
	return z - 0x9e3779b97f4a7c15
}

// unshift is the z whose xor with itself shifted right by k is the number.
func unshift(number uint64, k int) uint64 {
	z := number
	for range 64/k + 1 {
		z = number ^ z>>k
	}
	return z
}

// inverse is what an odd number has to be multiplied by to make 1.
func inverse(odd uint64) uint64 {
	word := new(big.Int).Lsh(big.NewInt(1), 64)
	return new(big.Int).ModInverse(unbounded(odd), word).Uint64()
}

func unbounded(v uint64) *big.Int { return new(big.Int).SetUint64(v) }

// cut is what is left of a number in 64 bits.
func cut(v *big.Int) *big.Int {
	word := new(big.Int).Lsh(big.NewInt(1), 64)
	return new(big.Int).Mod(v, word)
}

// numberOf follows the chapter's words with unbounded integers that are cut to 64 bits.
func numberOf(seed, n uint64) uint64 {
	mix := func(z *big.Int, by uint) *big.Int { return new(big.Int).Xor(z, new(big.Int).Rsh(z, by)) }
	times := func(z *big.Int, hex string) *big.Int {
		by, _ := new(big.Int).SetString(hex, 16)
		return cut(new(big.Int).Mul(z, by))
	}
	place := cut(new(big.Int).Add(unbounded(n), big.NewInt(1)))
	z := cut(new(big.Int).Add(unbounded(seed), times(place, "9e3779b97f4a7c15")))
	z = times(mix(z, 30), "bf58476d1ce4e5b9")
	z = times(mix(z, 27), "94d049bb133111eb")
	return mix(z, 31).Uint64()
}

func belowOf(number uint64, most *big.Int) *big.Int {
	return new(big.Int).Rsh(new(big.Int).Mul(unbounded(number), most), 64)
}

func TestAt(t *testing.T) { // P5.1
	for _, c := range []struct{ seed, n, want uint64 }{
		{0, 0, 0xe220a8397b1dcdaf}, // the chapter's example
		{0, 1, 0x6e789e6aa1b965f4},
		{0, 2, 0x06c45d188009454f},
		{0, last, 0}, // n + 1 wraps around to 0
		{1234567, 0, 0x599ed017fb08fc85},
		{0x9e3779b97f4a7c15, last, 0xe220a8397b1dcdaf},
		{last - 0x9e3779b97f4a7c15 + 1, 0, 0}, // the seed and the step wrap around to 0
	} {
		if v := rng.At(c.seed, c.n); v != c.want {
			t.Errorf("At(%x, %x): %x, want %x", c.seed, c.n, v, c.want)
		}
	}
	for _, seed := range edges() {
		for _, n := range edges() {
			checkAt(t, seed, n)
		}
	}
	r := rand.New(rand.NewSource(5))
	for range 2000 {
		checkAt(t, r.Uint64(), r.Uint64()>>r.Intn(64))
	}
}

func checkAt(t *testing.T, seed, n uint64) {
	t.Helper()
	if v, want := rng.At(seed, n), numberOf(seed, n); v != want {
		t.Errorf("At(%x, %x): %x, want %x", seed, n, v, want)
	}
}

func TestBelow(t *testing.T) { // P5.2
	if v := rng.Below(0, 0, 10); v != 8 {
		t.Errorf("Below(0, 0, 10): %d, want 8", v)
	}
	for _, number := range edges() {
		seed := seedOf(number)
		if v := rng.At(seed, 0); v != number {
			t.Fatalf("the seed of %x has %x", number, v)
		}
		for _, most := range mosts() {
			checkBelow(t, seed, 0, most)
		}
	}
	r := rand.New(rand.NewSource(6))
	for range 2000 {
		checkBelow(t, r.Uint64(), r.Uint64(), r.Uint64()>>r.Intn(64))
	}
}

// mosts are powers of two, and what is beside them.
func mosts() []uint64 {
	list := edges()
	for bit := range 64 {
		power := uint64(1) << bit
		list = append(list, power-1, power, power+1)
	}
	return list
}

func checkBelow(t *testing.T, seed, n, most uint64) {
	t.Helper()
	v := rng.Below(seed, n, most)
	if want := belowOf(numberOf(seed, n), unbounded(most)).Uint64(); v != want {
		t.Errorf("Below(%x, %x, %x): %x, want %x", seed, n, most, v, want)
	}
	if v >= most && (v != 0 || most != 0) {
		t.Errorf("Below(%x, %x, %x): %x is not below", seed, n, most, v)
	}
}

func TestBelowAtItsEnds(t *testing.T) { // P5.2
	low, high := seedOf(0), seedOf(last)
	for _, c := range []struct{ seed, most, want uint64 }{
		{low, 0, 0}, {low, 1, 0}, {low, last, 0},
		{high, 0, 0}, {high, 1, 0}, {high, 2, 1}, {high, 10, 9}, {high, last, last - 1},
		{seedOf(1 << 63), 2, 1}, {seedOf(1<<63 - 1), 2, 0},
	} {
		if v := rng.Below(c.seed, 0, c.most); v != c.want {
			t.Errorf("Below(%x, 0, %x): %x, want %x", c.seed, c.most, v, c.want)
		}
	}
}

func TestBetween(t *testing.T) { // P5.3
	if v, e := rng.Between(0, 0, -5, 4); v != 3 || e != api.OK {
		t.Errorf("Between(0, 0, -5, 4): %d, %d, want 3", v, e)
	}
	ends := []int64{math.MinInt64, math.MinInt64 + 1, math.MinInt64 + 2, -1 << 32, -6, -5, -1, 0, 1, 4, 5, 1 << 32, math.MaxInt64 - 2, math.MaxInt64 - 1, math.MaxInt64}
	seeds := []uint64{0, 1, last, seedOf(0), seedOf(1), seedOf(1<<63 - 1), seedOf(1 << 63), seedOf(last - 1), seedOf(last)}
	for _, least := range ends {
		for _, most := range ends {
			for _, seed := range seeds {
				checkBetween(t, seed, 0, least, most)
				checkBetween(t, seed, last, least, most)
				checkBetween(t, seed, 7, least, most)
			}
		}
	}
	r := rand.New(rand.NewSource(7))
	for range 2000 {
		checkBetween(t, r.Uint64(), r.Uint64(), int64(r.Uint64())>>r.Intn(64), int64(r.Uint64())>>r.Intn(64))
	}
}

func checkBetween(t *testing.T, seed, n uint64, least, most int64) {
	t.Helper()
	v, e := rng.Between(seed, n, least, most)
	want, wantE := betweenOf(numberOf(seed, n), least, most)
	if v != want || e != wantE {
		t.Errorf("Between(%x, %x, %d, %d): %d, %d, want %d, %d", seed, n, least, most, v, e, want, wantE)
	}
	if e == api.OK && (v < least || v > most) {
		t.Errorf("Between(%x, %x, %d, %d): %d is not between", seed, n, least, most, v)
	}
}

func betweenOf(number uint64, least, most int64) (int64, api.Errno) {
	if least > most {
		return 0, api.ErrArg
	}
	count := new(big.Int).Sub(big.NewInt(most), big.NewInt(least))
	count.Add(count, big.NewInt(1))
	if count.BitLen() == 65 {
		return int64(number), api.OK
	}
	return new(big.Int).Add(big.NewInt(least), belowOf(number, count)).Int64(), api.OK
}

func TestBetweenEnds(t *testing.T) { // P5.3
	const least, most = math.MinInt64, math.MaxInt64
	for _, c := range []struct {
		number          uint64
		least, most, of int64
	}{
		// The whole range: the number itself.
		{0, least, most, 0}, {last, least, most, -1}, {1 << 63, least, most, least}, {1<<63 - 1, least, most, most},
		// One number less: counted from the least.
		{0, least, most - 1, least}, {last, least, most - 1, most - 1}, {1 << 63, least, most - 1, -1},
		{0, least + 1, most, least + 1}, {last, least + 1, most, most}, {1 << 63, least + 1, most, 0},
		{last, least, least, least}, {0, most, most, most}, {last, most, most, most}, {last, 0, 0, 0},
	} {
		if v, e := rng.Between(seedOf(c.number), 0, c.least, c.most); v != c.of || e != api.OK {
			t.Errorf("Between of %x, %d, %d: %d, %d, want %d", c.number, c.least, c.most, v, e, c.of)
		}
	}
	for _, c := range [][2]int64{{most, least}, {1, 0}, {0, -1}, {4, 3}, {-4, -5}, {least + 1, least}, {most, most - 1}} {
		if v, e := rng.Between(0, 0, c[0], c[1]); v != 0 || e != api.ErrArg {
			t.Errorf("Between(0, 0, %d, %d): %d, %d, want ErrArg", c[0], c[1], v, e)
		}
	}
}

func TestOrder(t *testing.T) { // P5.4
	for _, count := range []int{-1, -2, -256, 257, 258, 1 << 32, 1<<32 + 1, math.MinInt, math.MinInt + 1, math.MaxInt} {
		if order, e := rng.Order(0, 0, count); len(order) != 0 || e != api.ErrArg {
			t.Errorf("Order(0, 0, %d): %v, %d, want ErrArg", count, order, e)
		}
	}
	places := []uint64{0, 1, 7, 1 << 63, last - 256, last - 255, last - 100, last - 2, last - 1, last}
	for _, seed := range []uint64{0, 1, 7, 1 << 63, last, seedOf(last)} {
		for _, n := range places {
			for count := range 257 {
				checkOrder(t, seed, n, count)
			}
		}
	}
}

func checkOrder(t *testing.T, seed, n uint64, count int) {
	t.Helper()
	order, e := rng.Order(seed, n, count)
	want := orderOf(seed, n, count)
	if e != api.OK || !slices.Equal(order, want) {
		t.Fatalf("Order(%x, %x, %d): %v, %d, want %v", seed, n, count, order, e, want)
	}
	slices.Sort(order)
	for i, v := range order { // P5.5
		if v != i {
			t.Fatalf("Order(%x, %x, %d) lacks %d", seed, n, count, i)
		}
	}
}

// orderOf takes the chapter's swaps one by one.
func orderOf(seed, n uint64, count int) []int {
	var order []int
	for i := range count {
		order = append(order, i)
	}
	for i := count - 1; i > 0; i-- {
		place := cut(new(big.Int).Add(unbounded(n), big.NewInt(int64(i)))).Uint64()
		other := rng.Below(seed, place, uint64(i+1))
		kept := order[i]
		order[i] = order[other]
		order[other] = kept
	}
	return order
}

func TestOrderKnown(t *testing.T) { // P5.4
	if order, e := rng.Order(0, 0, 1); e != api.OK || !slices.Equal(order, []int{0}) {
		t.Errorf("Order(0, 0, 1): %v, %d", order, e)
	}
	if order, e := rng.Order(0, 0, 0); e != api.OK || len(order) != 0 {
		t.Errorf("Order(0, 0, 0): %v, %d", order, e)
	}
	// Of two elements the number of place n + 1 alone decides, by its highest bit.
	if order, e := rng.Order(seedOf(1<<63-1), last, 2); e != api.OK || !slices.Equal(order, []int{1, 0}) {
		t.Errorf("a low number leaves %v, %d", order, e)
	}
	if order, e := rng.Order(seedOf(1<<63), last, 2); e != api.OK || !slices.Equal(order, []int{0, 1}) {
		t.Errorf("a high number leaves %v, %d", order, e)
	}
}

func TestOrderIsNew(t *testing.T) { // P5.4, R3
	a, _ := rng.Order(3, 4, 256)
	kept := slices.Clone(a)
	b, _ := rng.Order(3, 4, 256)
	for i := range b {
		b[i] = -1
	}
	c, _ := rng.Order(3, 4, 256)
	if !slices.Equal(a, kept) || !slices.Equal(c, kept) {
		t.Errorf("an order changed with another one: %v, %v, want %v", a, c, kept)
	}
}

func TestNumbersDiffer(t *testing.T) { // P5.5
	for _, seed := range []uint64{0, 1, last, 0x9e3779b97f4a7c15, seedOf(0)} {
		place := map[uint64]uint64{}
		for i := range uint64(20000) {
			for _, n := range []uint64{i, 1<<63 + i, last - i} {
				v := rng.At(seed, n)
				if other, found := place[v]; found {
					t.Fatalf("seed %x: places %x and %x both have %x", seed, other, n, v)
				}
				place[v] = n
			}
		}
	}
}
