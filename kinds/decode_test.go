package kinds_test

import (
	"bytes"
	"math"
	"math/rand"
	"slices"
	"testing"

	"bivouac/api"
	"bivouac/kinds"
)

// fails: Decode answers this error, this place, and no book.
func fails(t *testing.T, name string, b []byte, e api.Errno, at int) {
	t.Helper()
	book, gotE, gotAt := kinds.Decode(b)
	if gotE != e || gotAt != at || !zero(book) {
		t.Errorf("Decode of %s, %d bytes: %v, %d at %d, want %d at %d", name, len(b), book, gotE, gotAt, e, at)
	}
}

func decodes(t *testing.T, name string, b []byte, want api.Book) {
	t.Helper()
	book, e, at := kinds.Decode(b)
	if e != api.OK || at != 0 || !same(book, want) {
		t.Errorf("Decode of %s: %v, %d at %d, want %v", name, book, e, at, want)
	}
}

// wrongSpeed is the bits of a float that is no fixed number, and which error that is.
type wrongSpeed struct {
	bits uint64
	e    api.Errno
}

func wrongSpeeds() []wrongSpeed {
	list := []wrongSpeed{
		{0x7ff8000000000000, api.ErrNaN}, {0x7ff0000000000001, api.ErrNaN}, {0x7fffffffffffffff, api.ErrNaN},
		{0xfff8000000000000, api.ErrNaN}, {0xfff0000000000001, api.ErrNaN}, {0xffffffffffffffff, api.ErrNaN},
		{0x7ff0000000000000, api.ErrOver}, {0xfff0000000000000, api.ErrOver}, // the infinities
	}
	for _, f := range []float64{1 << 30, math.Nextafter(1<<30, 1<<31), math.Nextafter(-1<<30, -1<<31), -1<<30 - 1, 1 << 46, 1 << 48, -1 << 48, math.MaxFloat64, -math.MaxFloat64} {
		list = append(list, wrongSpeed{math.Float64bits(f), api.ErrOver})
	}
	return list
}

func TestExamplesDecoded(t *testing.T) { // P10.3: the chapter's examples
	b := bytesOf(example())
	decodes(t, "the example", b, example())
	fails(t, "the example without its last byte", b[:36], api.ErrShort, 36)
	put(b[29:37], 0x7ff8000000000000)
	fails(t, "the example with a NaN", b, api.ErrNaN, 29)
}

func TestDecodeByteByByte(t *testing.T) { // P10.3
	decodes(t, "two kinds and a weapon", []byte{
		2, 1,
		3, 0xff, 0x01, 0x23, 0x45, 1, 2, 3, 4, 5, 6, 7, 8, 9, 10, 11, 12,
		13, 14, 15, 16, 17, 18, 19, 20, 2, 0,
		0, 0, 0, 0, 0, 0, 0xe8, 0x3f,
		0, 1, 0, 0, 0, 0, 0, 0, 0, 1, 0, 0, 0, 0, 0, 0, 0, 0, 0, 0, 0, 0, 0, 0, 0, 0, 255, 0, 0, 0, 0, 0, 0, 0, 0,
		0x34, 0x12, 21, 22, 7, 1, 0, 0, 0, 0, 0, 0, 0x0c, 0x40,
	}, api.Book{
		Kinds: []api.Kind{{
			Class: 3, Health: 0x1ff, Turn: 0x4523, Metal: 0x0201, Energy: 0x0403, Work: 0x0605, StoreM: 0x0807, StoreE: 0x0a09, Wreck: 0x0c0b,
			Sight: 13, Radar: 14, Sonar: 15, Jam: 16, GiveM: 17, GiveE: 18, EatE: 19, Build: 20, Carry: 2, Weapon: 0, Speed: 49152,
		}, {Health: 1, Work: 1, Weapon: 255}},
		Weapons: []api.Weapon{{Damage: 0x1234, Reach: 21, Reload: 22, Splash: 7, Under: true, Speed: 229376}},
	})
}

func TestDecodeOfFewBytes(t *testing.T) { // P10.3
	fails(t, "nil", nil, api.ErrShort, 0)
	fails(t, "nothing", []byte{}, api.ErrShort, 0)
	for n := range 256 {
		fails(t, "one byte", []byte{byte(n)}, api.ErrShort, 1)
	}
	fails(t, "no kinds and no weapons", []byte{0, 0}, api.ErrArg, -1)
}

// Every length below and above what the numbers require, whatever else is wrong; and just as many bytes.
func TestDecodeOfLengths(t *testing.T) { // P10.3
	for _, fill := range []byte{0, 1, 255} { // of 255 each Under and each Speed is wrong
		for _, n := range []int{0, 1, 2, 15, 16, 17, 255} {
			for _, m := range []int{0, 1, 2, 15, 16, 17, 255} {
				need := 2 + 35*n + 14*m
				b := bytes.Repeat([]byte{fill}, need+3000)
				b[0], b[1] = byte(n), byte(m)
				for length := 2; length < need; length++ {
					fails(t, "too few", b[:length], api.ErrShort, length)
				}
				for _, more := range []int{1, 2, 13, 14, 15, 34, 35, 36, 49, 100, 3000} {
					fails(t, "too many", b[:need+more], api.ErrExtra, need)
				}
			}
		}
	}
	for _, b := range books() {
		whole := bytesOf(b)
		fails(t, "a book without its last byte", whole[:len(whole)-1], api.ErrShort, len(whole)-1)
		fails(t, "a book and a byte", append(whole, 0), api.ErrExtra, len(whole))
	}
}

// Every pair of numbers, ahead of just as many zeros, one fewer, and one more.
func TestDecodeOfAllNumbers(t *testing.T) { // P10.3
	room := make([]byte, 2+35*255+14*255+1)
	for n := range 256 {
		for m := range 256 {
			room[0], room[1] = byte(n), byte(m)
			need, at := 2+35*n+14*m, -1
			if n >= 1 && n <= 16 && m <= 16 {
				at = 0 // a kind of zeros has no health
			}
			fails(t, "zeros", room[:need], api.ErrArg, at)
			fails(t, "a zero fewer", room[:need-1], api.ErrShort, need-1)
			fails(t, "a zero more", room[:need+1], api.ErrExtra, need)
		}
	}
}

func TestDecodeOfWrongUnders(t *testing.T) { // P10.3
	for _, n := range []int{1, 3, 16} {
		for _, m := range counts {
			for _, at := range places(m) {
				whole := bytesOf(middling(n, m))
				under := weaponAt(n, at) + weaponUnder
				for v := 2; v <= 255; v++ {
					whole[under] = byte(v)
					fails(t, "an Under that is too great", whole, api.ErrForm, under)
				}
			}
		}
	}
}

func TestDecodeOfWrongSpeeds(t *testing.T) { // P10.3
	for _, s := range wrongSpeeds() {
		for _, n := range counts {
			for _, m := range []int{0, 1, 2, 16} {
				for kind := range n {
					b := bytesOf(middling(n, m))
					at := kindAt(kind) + kindSpeed
					put(b[at:at+8], s.bits)
					fails(t, "a kind's wrong speed", b, s.e, at)
				}
				for weapon := range m {
					b := bytesOf(middling(n, m))
					at := weaponAt(n, weapon) + weaponSpeed
					put(b[at:at+8], s.bits)
					fails(t, "a weapon's wrong speed", b, s.e, at)
				}
			}
		}
	}
}

// What is wrong about bytes is wrong too where the numbers of kinds and of weapons are.
func TestFormComesAheadOfNumbers(t *testing.T) { // P10.3
	for _, c := range [][2]int{{0, 1}, {0, 17}, {17, 0}, {17, 2}, {1, 17}, {255, 255}} {
		n, m := c[0], c[1]
		whole := make([]byte, weaponAt(n, m))
		whole[0], whole[1] = byte(n), byte(m)
		fails(t, "wrong numbers", whole, api.ErrArg, -1)
		if n > 0 {
			b, at := bytes.Clone(whole), kindAt(n-1)+kindSpeed
			put(b[at:at+8], 0x7ff8000000000000)
			fails(t, "wrong numbers and the last kind's speed", b, api.ErrNaN, at)
		}
		if m > 0 {
			b, at := bytes.Clone(whole), weaponAt(n, m-1)+weaponSpeed
			put(b[at:at+8], 0xfff0000000000000)
			fails(t, "wrong numbers and the last weapon's speed", b, api.ErrOver, at)
			b[at-1] = 2
			fails(t, "wrong numbers and the last weapon's Under", b, api.ErrForm, at-1)
		}
	}
}

func TestTheFirstFault(t *testing.T) { // P10.3
	const n, m = 3, 3
	type place struct{ at, size int }
	var list []place // in the order in which they count
	for kind := range n {
		list = append(list, place{kindAt(kind) + kindSpeed, 8})
	}
	for weapon := range m {
		at := weaponAt(n, weapon)
		list = append(list, place{at + weaponUnder, 1}, place{at + weaponSpeed, 8})
	}
	speeds := wrongSpeeds()
	for which := 1; which < 1<<len(list); which++ {
		b := bytesOf(middling(n, m))
		b[kindAt(0)] = 6 // a fault of Check, in the very first field, comes behind all of these
		want, wantAt := api.OK, 0
		for k, p := range list {
			if which>>k&1 == 0 {
				continue
			}
			e, v := api.ErrForm, uint64(2+which%254)
			if p.size == 8 {
				s := speeds[(which+k)%len(speeds)]
				e, v = s.e, s.bits
			}
			put(b[p.at:p.at+p.size], v)
			if want == api.OK {
				want, wantAt = e, p.at
			}
		}
		fails(t, "several faults", b, want, wantAt)
		fails(t, "several faults, and a byte too few", b[:len(b)-1], api.ErrShort, len(b)-1)
		fails(t, "several faults, and a byte too many", append(b, 0), api.ErrExtra, len(b))
	}
}

func above(f float64) float64 { return math.Nextafter(f, math.Inf(1)) }
func below(f float64) float64 { return math.Nextafter(f, math.Inf(-1)) }

// A float that is no fixed number becomes the next one below, or a fault of Check.
func TestSpeedsRoundedDown(t *testing.T) { // P10.3
	const part = 1.0 / 65536
	negativeZero := math.Copysign(0, -1)
	for _, c := range []struct {
		f    float64
		want int64
	}{
		{0, 0}, {negativeZero, 0}, {math.SmallestNonzeroFloat64, 0}, {below(part), 0},
		{-math.SmallestNonzeroFloat64, -1}, {-0.00001, -1}, {-part, -1}, {above(-part), -1}, {below(-part), -2}, {-1, -65536}, {-0.5, -32768},
		{-1 << 30, -1 << 46}, {above(-1 << 30), -1 << 46}, {below(1 << 30), 1<<46 - 1}, {1 << 29, 1 << 45},
		{part, 1}, {above(part), 1}, {1.5 * part, 1}, {below(2 * part), 1}, {0.1, 6553}, {0.7, 45875},
		{below(1), 65535}, {1, 65536}, {above(1), 65536}, {below(1 + part), 65536}, {1 + part, 65537},
		{3.3, 216268}, {below(4), 262143}, {4, 262144}, {above(4), 262144}, {below(4 + part), 262144}, {4 + part, 262145}, {100, 6553600},
	} {
		for at := range 3 {
			x := middling(3, 3)
			b := bytesOf(x)
			put(b[kindAt(at)+kindSpeed:kindAt(at+1)], math.Float64bits(c.f))
			if c.want >= 0 && c.want <= 65536 {
				x.Kinds[at].Speed = c.want
				decodes(t, "a kind's speed", b, x)
			} else {
				fails(t, "a kind's speed", b, api.ErrArg, at)
			}
			x = middling(3, 3)
			b = bytesOf(x)
			put(b[weaponAt(3, at)+weaponSpeed:weaponAt(3, at+1)], math.Float64bits(c.f))
			if c.want >= 1 && c.want <= 262144 {
				x.Weapons[at].Speed = c.want
				decodes(t, "a weapon's speed", b, x)
			} else {
				fails(t, "a weapon's speed", b, api.ErrArg, 3+at)
			}
		}
	}
}

// tryField decodes a book with each number in a field's bytes, or with many of them.
func tryField[T any](t *testing.T, f field[T], x api.Book, of *T, begin, index int) {
	most := int64(1)<<(8*f.size) - 1
	numbers := []int64{f.least, f.most, max(0, f.least-1), min(f.most+1, most), most}
	for v := int64(0); v <= most; v += pick(f.size == 2, int64(13), 1) {
		numbers = append(numbers, v)
	}
	b := bytesOf(x)
	for _, v := range numbers {
		put(b[begin+f.at:begin+f.at+f.size], uint64(v))
		if v < f.least || v > f.most {
			fails(t, f.name, b, api.ErrArg, index)
		} else {
			f.set(of, v)
			decodes(t, f.name, b, x)
		}
	}
}

func TestFaultsOfCheck(t *testing.T) { // P10.3
	for at := range 3 {
		for _, f := range kindFields() {
			if x := middling(3, 2); f.size < 8 {
				tryField(t, f, x, &x.Kinds[at], kindAt(at), at)
			}
		}
		for _, f := range weaponFields() {
			if x := middling(2, 3); f.size < 8 {
				tryField(t, f, x, &x.Weapons[at], weaponAt(2, at), 2+at)
			}
		}
		for v := range 256 {
			x := middling(3, 2)
			b := bytesOf(x)
			b[kindAt(at)+26] = byte(v)
			if v < 2 || v == 255 {
				x.Kinds[at].Weapon = v
				decodes(t, "Weapon", b, x)
			} else {
				fails(t, "Weapon", b, api.ErrArg, at)
			}
		}
	}
}

func TestTheFirstFaultOfCheck(t *testing.T) { // P10.3
	whole := bytesOf(middling(16, 16))
	for at := 31; at >= 0; at-- {
		if at >= 16 {
			whole[weaponAt(16, at-16)+2] = 0 // Reach
		} else {
			whole[kindAt(at)+25] = 5 // Carry
		}
		fails(t, "several that are not valid", whole, api.ErrArg, at)
	}
}

func TestDecodeOfBooks(t *testing.T) { // P10.3
	for _, b := range books() {
		decodes(t, "a book", bytesOf(b), b)
	}
}

// byWords is what the chapter says of Decode, held against the bytes by their places.
func byWords(b []byte) (book api.Book, e api.Errno, at int) {
	if len(b) < 2 {
		return book, api.ErrShort, len(b)
	}
	n, m := int(b[0]), int(b[1])
	if need := weaponAt(n, m); len(b) < need {
		return book, api.ErrShort, len(b)
	} else if len(b) > need {
		return book, api.ErrExtra, need
	}
	x := api.Book{Kinds: make([]api.Kind, n), Weapons: make([]api.Weapon, m)}
	for k := range x.Kinds {
		fields := append(kindFields(), weaponOf())
		if e, at := readByWords(b, kindAt(k), &x.Kinds[k], fields); e != api.OK {
			return book, e, at
		}
	}
	for k := range x.Weapons {
		under := weaponAt(n, k) + weaponUnder
		if b[under] > 1 {
			return book, api.ErrForm, under
		}
		x.Weapons[k].Under = b[under] == 1
		if e, at := readByWords(b, weaponAt(n, k), &x.Weapons[k], weaponFields()); e != api.OK {
			return book, e, at
		}
	}
	if e, at := kinds.Check(x); e != api.OK {
		return book, e, at
	}
	return x, api.OK, 0
}

// readByWords takes fields of which just one can be wrong by itself, the Speed.
func readByWords[T any](b []byte, begin int, of *T, fields []field[T]) (api.Errno, int) {
	for _, f := range fields {
		at := begin + f.at
		v := got(b[at : at+f.size])
		if f.name != "Speed" {
			f.set(of, int64(v))
			continue
		}
		x := math.Float64frombits(v)
		switch {
		case math.IsNaN(x):
			return api.ErrNaN, at
		case x < -1<<30 || x >= 1<<30:
			return api.ErrOver, at
		}
		f.set(of, int64(math.Floor(x*65536)))
	}
	return api.OK, 0
}

// manyBytes are those of books with some of them changed, cut off or added, and any at all.
func manyBytes() [][]byte {
	r := rand.New(rand.NewSource(11))
	list := [][]byte{nil}
	for range 20000 {
		b := bytesOf(drawn(r))
		for range r.Intn(4) {
			b[r.Intn(len(b))] = byte([]int{0, 1, 2, 255, r.Intn(256)}[r.Intn(5)])
		}
		if r.Intn(3) == 0 { // a Speed, of any size
			at := kindAt(r.Intn(int(max(1, b[0])))) + kindSpeed
			if at+8 <= len(b) {
				put(b[at:at+8], pick(r.Intn(2) == 0, r.Uint64(), wrongSpeeds()[r.Intn(len(wrongSpeeds()))].bits))
			}
		}
		switch r.Intn(12) {
		case 0:
			b = b[:r.Intn(len(b))]
		case 1:
			b = append(b, make([]byte, r.Intn(50))...)
		}
		list = append(list, b)
	}
	for range 20000 {
		b := make([]byte, r.Intn(200))
		r.Read(b)
		if len(b) > 2 { // a few of them as long as their numbers require
			b[0], b[1] = byte(r.Intn(4)), byte(r.Intn(4))
			if need := weaponAt(int(b[0]), int(b[1])); need < len(b) && r.Intn(3) > 0 {
				b = b[:need]
			}
		}
		list = append(list, b)
	}
	return list
}

func TestDecodeByWords(t *testing.T) { // P10.3
	found := map[api.Errno]int{}
	for _, b := range manyBytes() {
		before := bytes.Clone(b)
		book, e, at := kinds.Decode(b)
		want, wantE, wantAt := byWords(b)
		if e != wantE || at != wantAt || !same(book, want) || e != api.OK && !zero(book) {
			t.Fatalf("Decode of %v: %v, %d at %d, want %v, %d at %d", b, book, e, at, want, wantE, wantAt)
		}
		if !bytes.Equal(b, before) { // R3
			t.Fatalf("Decode changed its argument %v", before)
		}
		found[e]++
	}
	for _, e := range []api.Errno{api.OK, api.ErrArg, api.ErrShort, api.ErrForm, api.ErrExtra, api.ErrOver, api.ErrNaN} {
		if found[e] < 20 {
			t.Errorf("error %d was seen just %d times", e, found[e])
		}
	}
}

func TestDecodedIsNewMemory(t *testing.T) { // P10.3 with R3
	for _, want := range []api.Book{example(), middling(3, 2), middling(16, 16)} {
		room := append(bytesOf(want), 77, 77, 77, 77)
		b := room[:len(room)-4]
		got, e, _ := kinds.Decode(b)
		again, _, _ := kinds.Decode(b)
		if e != api.OK || !bytes.Equal(b, bytesOf(want)) || !bytes.Equal(room[len(b):], []byte{77, 77, 77, 77}) {
			t.Fatalf("Decode: %d, or its argument was changed", e)
		}
		for n := range room { // what a caller does to the argument
			room[n] = 9
		}
		if !same(got, want) {
			t.Errorf("Decode keeps its argument")
		}
		clear(got.Kinds) // and to the result
		clear(got.Weapons)
		_ = append(got.Kinds, api.Kind{Health: 5})
		_ = append(got.Weapons, api.Weapon{Reach: 5})
		if !same(again, want) || slices.ContainsFunc(room, func(b byte) bool { return b != 9 }) {
			t.Errorf("Decode shares its result")
		}
		if last, e, at := kinds.Decode(bytesOf(want)); e != api.OK || at != 0 || !same(last, want) { // R4
			t.Errorf("Decode again: %v, %d at %d", last, e, at)
		}
	}
}
