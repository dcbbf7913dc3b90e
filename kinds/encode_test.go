package kinds_test

import (
	"bytes"
	"math"
	"slices"
	"testing"

	"bivouac/api"
	"bivouac/kinds"
)

func TestExampleEncoded(t *testing.T) { // P10.2: the chapter's example
	want := make([]byte, 37)
	want[0] = 1  // one kind
	want[3] = 1  // Health, behind Class
	want[11] = 1 // Work
	want[28] = 255
	if b := kinds.Encode(example()); !bytes.Equal(b, want) {
		t.Errorf("Encode: %v, want %v", b, want)
	}
}

func TestEncodeByteByByte(t *testing.T) { // P10.2
	b := api.Book{
		Kinds: []api.Kind{{
			Class: 5, Health: 9999, Speed: 65536, Turn: 32768,
			Sight: 32, Radar: 31, Sonar: 30, Jam: 29,
			Metal: 65535, Energy: 0x0102, Work: 0xfe01,
			GiveM: 255, GiveE: 254, EatE: 253, StoreM: 256, StoreE: 255, Build: 200, Carry: 4, Weapon: 1, Wreck: 0xabcd,
		}, {
			Class: 1, Health: 258, Speed: 1, Turn: 3, Work: 1, Weapon: 255, Jam: 7, EatE: 9, Wreck: 2,
		}},
		Weapons: []api.Weapon{
			{Reach: 32, Damage: 9998, Speed: 4 * 65536, Reload: 255, Splash: 8, Under: true},
			{Reach: 1, Damage: 0, Speed: 1, Reload: 2, Splash: 3, Under: false},
		},
	}
	want := []byte{
		2, 2,
		5, 0x0f, 0x27, 0, 0x80, 0xff, 0xff, 2, 1, 1, 0xfe, 0, 1, 0xff, 0, 0xcd, 0xab,
		32, 31, 30, 29, 255, 254, 253, 200, 4, 1,
		0, 0, 0, 0, 0, 0, 0xf0, 0x3f, // 1
		1, 2, 1, 3, 0, 0, 0, 0, 0, 1, 0, 0, 0, 0, 0, 2, 0,
		0, 0, 0, 7, 0, 0, 9, 0, 0, 255,
		0, 0, 0, 0, 0, 0, 0xf0, 0x3e, // a 65536th
		0x0e, 0x27, 32, 255, 8, 1,
		0, 0, 0, 0, 0, 0, 0x10, 0x40, // 4
		0, 0, 1, 2, 3, 0,
		0, 0, 0, 0, 0, 0, 0xf0, 0x3e,
	}
	if got := kinds.Encode(b); !bytes.Equal(got, want) {
		t.Errorf("Encode: %v, want %v", got, want)
	}
}

func TestSpeedsEncoded(t *testing.T) { // P10.2
	for _, c := range []struct {
		speed int64
		bits  uint64
	}{
		{0, 0},
		{1, 0x3ef0000000000000},
		{2, 0x3f00000000000000},
		{3, 0x3f08000000000000},
		{0x1234, 0x3fb2340000000000},
		{32767, 0x3fdfffc000000000},
		{32768, 0x3fe0000000000000},
		{65535, 0x3fefffe000000000},
		{65536, 0x3ff0000000000000},
		{65537, 0x3ff0001000000000}, // what follows may be a weapon's only
		{3 * 65536, 0x4008000000000000},
		{262143, 0x400ffff800000000},
		{262144, 0x4010000000000000},
	} {
		want := make([]byte, 8)
		put(want, c.bits)
		b := middling(2, 2)
		if c.speed <= 65536 {
			b.Kinds[1].Speed = c.speed
			if got := kinds.Encode(b)[kindAt(1)+kindSpeed : kindAt(2)]; !bytes.Equal(got, want) {
				t.Errorf("Encode of a kind's speed %d: %x, want %x", c.speed, got, want)
			}
		}
		if c.speed > 0 {
			b.Weapons[1].Speed = c.speed
			if got := kinds.Encode(b)[weaponAt(2, 1)+weaponSpeed:]; !bytes.Equal(got, want) {
				t.Errorf("Encode of a weapon's speed %d: %x, want %x", c.speed, got, want)
			}
		}
		if bits := speedBits(c.speed); bits != c.bits || math.Float64frombits(bits) != float64(c.speed)/65536 {
			t.Errorf("these tests take %x for the speed %d, want %x", bits, c.speed, c.bits)
		}
	}
}

func TestEncodeOfBooks(t *testing.T) { // P10.2
	for _, b := range books() {
		got, want := kinds.Encode(b), bytesOf(b)
		if len(got) != 2+35*len(b.Kinds)+14*len(b.Weapons) || !bytes.Equal(got, want) {
			t.Errorf("Encode of %v: %v, want %v", b, got, want)
		}
	}
}

// Each field alone, at all of its numbers, or at many.
func TestEncodeOfFields(t *testing.T) { // P10.2
	for _, f := range kindFields() {
		for v := f.least; v <= f.most; v += max(1, (f.most-f.least)/1000) {
			b := middling(2, 1)
			f.set(&b.Kinds[1], v)
			if got := kinds.Encode(b); !bytes.Equal(got, bytesOf(b)) {
				t.Fatalf("Encode with %s %d: %v", f.name, v, got)
			}
		}
	}
	for _, f := range weaponFields() {
		for v := f.least; v <= f.most; v += max(1, (f.most-f.least)/1000) {
			b := middling(1, 2)
			f.set(&b.Weapons[1], v)
			if got := kinds.Encode(b); !bytes.Equal(got, bytesOf(b)) {
				t.Fatalf("Encode with %s %d: %v", f.name, v, got)
			}
		}
	}
}

func TestEncodeOfWrongBooks(t *testing.T) { // P10.2
	for _, b := range wrongBooks() {
		if got := kinds.Encode(b); len(got) != 0 {
			t.Errorf("Encode of %v: %v", b, got)
		}
	}
}

func TestEncodedIsNewMemory(t *testing.T) { // P10.2 with R3
	for _, b := range []api.Book{example(), middling(3, 2), middling(16, 16)} {
		before := clone(b)
		got := kinds.Encode(b)
		again := kinds.Encode(b)
		was := bytes.Clone(got)
		for n := range b.Kinds { // what a caller does to the argument
			b.Kinds[n] = api.Kind{}
		}
		clear(b.Weapons)
		if !bytes.Equal(got, was) {
			t.Errorf("Encode keeps its argument")
		}
		for n := range got { // and to the result
			got[n] = 77
		}
		_ = append(got, 77, 77, 77)
		if !bytes.Equal(again, was) || !bytes.Equal(kinds.Encode(before), was) {
			t.Errorf("Encode shares its result")
		}
	}
}

func TestBooksStayAsTheyAre(t *testing.T) { // R3
	for _, b := range append(books(), wrongBooks()...) {
		// There is room behind the slices: that is not theirs to write into either.
		room := api.Book{Kinds: append(slices.Clone(b.Kinds), example().Kinds...), Weapons: append(slices.Clone(b.Weapons), api.Weapon{Reach: 9})}
		whole := clone(room)
		part := api.Book{Kinds: room.Kinds[:len(b.Kinds)], Weapons: room.Weapons[:len(b.Weapons)]}
		e, at := kinds.Check(part)
		got := kinds.Encode(part)
		if !same(part, b) || !same(room, whole) {
			t.Fatalf("the argument %v was changed", b)
		}
		if e2, at2 := kinds.Check(b); e2 != e || at2 != at || !bytes.Equal(kinds.Encode(b), got) { // R4
			t.Fatalf("another result of the same book %v", b)
		}
	}
}
