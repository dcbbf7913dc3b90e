package kinds_test

import (
	"bytes"
	"math"
	"math/rand"
	"testing"

	"bivouac/api"
	"bivouac/kinds"
)

func TestEncodedIsDecodedAsItWas(t *testing.T) { // P10.4
	for _, b := range books() {
		back, e, at := kinds.Decode(kinds.Encode(b))
		if e != api.OK || at != 0 || !same(back, b) {
			t.Fatalf("Decode of what was encoded of %v: %v, %d at %d", b, back, e, at)
		}
	}
	for v := range int64(65537) { // every speed that there is
		b := example()
		b.Kinds[0].Speed = v
		b.Weapons = []api.Weapon{{Reach: 1, Reload: 1, Speed: 4*v + 1}, {Reach: 1, Reload: 1, Speed: max(1, 4*v)}}
		b.Weapons[0].Speed = min(b.Weapons[0].Speed, 262144)
		if back, e, _ := kinds.Decode(kinds.Encode(b)); e != api.OK || !same(back, b) {
			t.Fatalf("Decode of what was encoded of the speed %d: %v, %d", v, back, e)
		}
	}
}

// All bytes that are decoded at all: those of books are encoded to the same bytes, those with speeds in between to others.
func TestDecodedIsValid(t *testing.T) { // P10.4
	decoded, rounded := 0, 0
	try := func(b []byte) {
		book, e, _ := kinds.Decode(b)
		if e != api.OK {
			return
		}
		decoded++
		if e, at := kinds.Check(book); e != api.OK || at != 0 {
			t.Fatalf("Check of what was decoded of %v: %d at %d", b, e, at)
		}
		bytesNow := kinds.Encode(book)
		if !bytes.Equal(bytesNow, b) {
			rounded++
		}
		again, e, at := kinds.Decode(bytesNow)
		if e != api.OK || at != 0 || !same(again, book) {
			t.Fatalf("%v is decoded, encoded and decoded: %v, %d at %d, want %v", b, again, e, at, book)
		}
		if !bytes.Equal(kinds.Encode(again), bytesNow) {
			t.Fatalf("%v is encoded in two ways", book)
		}
	}
	for _, b := range manyBytes() {
		try(b)
	}
	r := rand.New(rand.NewSource(12))
	for range 5000 {
		x := drawn(r)
		b := bytesOf(x)
		for n := range x.Kinds {
			put(b[kindAt(n)+kindSpeed:kindAt(n+1)], math.Float64bits(r.Float64()))
		}
		for n := range x.Weapons {
			at := weaponAt(len(x.Kinds), n) + weaponSpeed
			put(b[at:at+8], math.Float64bits(0.0001+3*r.Float64()))
		}
		try(b)
	}
	if decoded < 10000 || rounded < 5000 {
		t.Errorf("just %d were decoded, %d of them with speeds in between", decoded, rounded)
	}
}

// No call panics: any book, and any bytes, among them many more than a book has.
func TestNothingPanics(t *testing.T) { // R1
	r := rand.New(rand.NewSource(13))
	some := func() int64 {
		return []int64{0, 1, -1, math.MinInt64, math.MaxInt64, int64(r.Uint64()), r.Int63n(300), r.Int63n(70000)}[r.Intn(8)]
	}
	for range 20000 {
		b := api.Book{Kinds: make([]api.Kind, r.Intn(20)), Weapons: make([]api.Weapon, r.Intn(20))}
		for n := range b.Kinds {
			for _, f := range append(kindFields(), weaponOf()) {
				f.set(&b.Kinds[n], some())
			}
		}
		for n := range b.Weapons {
			for _, f := range weaponFields() {
				f.set(&b.Weapons[n], some())
			}
		}
		e, at := kinds.Check(b)
		got := kinds.Encode(b)
		if (e == api.OK) != (len(got) > 0) || e == api.OK && at != 0 || e != api.OK && e != api.ErrArg {
			t.Fatalf("Check of %v: %d at %d, but Encode: %v", b, e, at, got)
		}
	}
	long := make([]byte, 1<<20)
	for range 200 {
		r.Read(long[:20000])
		length := []int{r.Intn(20000), len(long), weaponAt(int(long[0]), int(long[1]))}[r.Intn(3)]
		want, wantE, wantAt := byWords(long[:length])
		book, e, at := kinds.Decode(long[:length])
		if !same(book, want) || e != wantE || at != wantAt {
			t.Fatalf("Decode of %d bytes, numbers %d and %d: %d at %d, want %d at %d", length, long[0], long[1], e, at, wantE, wantAt)
		}
	}
}
