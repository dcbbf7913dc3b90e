package relief_test

import (
	"bytes"
	"slices"
	"testing"

	"bivouac/api"
	"bivouac/relief"
)

func same(a, b api.Map) bool {
	return a.W == b.W && a.H == b.H && a.Water == b.Water && bytes.Equal(a.Corners, b.Corners)
}

func TestEncode(t *testing.T) { // P6.4
	wide := api.Map{W: 2, H: 1, Water: 255, Corners: []byte{1, 2, 3, 4, 5, 255}}
	for _, c := range []struct {
		m    api.Map
		want []byte
	}{
		{example(), []byte{1, 1, 5, 0, 10, 20, 30}}, // the chapter's example
		{wide, []byte{2, 1, 255, 1, 2, 3, 4, 5, 255}},
		{flat(1, 2, 0, 0), []byte{1, 2, 0, 0, 0, 0, 0, 0, 0}},
	} {
		if b := relief.Encode(c.m); !bytes.Equal(b, c.want) {
			t.Errorf("Encode of %v: %v, want %v", c.m, b, c.want)
		}
	}
}

func TestEncodedIsDecoded(t *testing.T) { // P6.4, P6.5
	for _, m := range maps() {
		b := relief.Encode(m)
		want := append([]byte{byte(m.W), byte(m.H), byte(m.Water)}, m.Corners...)
		if !bytes.Equal(b, want) {
			t.Errorf("Encode of %d by %d: %v, want %v", m.W, m.H, b, want)
		}
		back, e := relief.Decode(b)
		if e != api.OK || !same(back, m) {
			t.Errorf("Decode of %d by %d: %v, %d", m.W, m.H, back, e)
		}
		if again := relief.Encode(back); !bytes.Equal(again, b) {
			t.Errorf("Encode of what was decoded: %v, want %v", again, b)
		}
	}
}

func TestDecodeOfWrongBytes(t *testing.T) { // P6.4
	full := relief.Encode(flat(64, 64, 255, 9))
	for _, c := range []struct {
		b []byte
		e api.Errno
	}{
		{nil, api.ErrShort},
		{[]byte{}, api.ErrShort},
		{[]byte{1}, api.ErrShort},
		{[]byte{1, 1}, api.ErrShort},
		{[]byte{0, 0}, api.ErrShort}, // too few bytes come first
		{[]byte{65}, api.ErrShort},
		{[]byte{1, 1, 5}, api.ErrShort}, // a map without corners
		{[]byte{0, 1, 5}, api.ErrArg},
		{[]byte{1, 0, 5}, api.ErrArg},
		{[]byte{65, 1, 5}, api.ErrArg},
		{[]byte{1, 65, 5}, api.ErrArg},
		{[]byte{255, 255, 255}, api.ErrArg},
		{[]byte{0, 0, 0, 1}, api.ErrArg},
		{[]byte{1, 1, 5, 0, 10, 20}, api.ErrShort},
		{[]byte{1, 1, 5, 0}, api.ErrShort},
		{[]byte{1, 1, 5, 0, 10, 20, 30, 40}, api.ErrExtra},
		{[]byte{2, 1, 5, 0, 10, 20, 30}, api.ErrShort},
		{full[:len(full)-1], api.ErrShort},
		{append(slices.Clone(full), 0), api.ErrExtra},
		{append([]byte{0, 1, 0}, make([]byte, 100)...), api.ErrArg},
		{append([]byte{65, 65, 0}, make([]byte, 66*66)...), api.ErrArg},
	} {
		m, e := relief.Decode(c.b)
		if e != c.e || !same(m, api.Map{}) {
			t.Errorf("Decode of %d bytes %v: %v, %d, want %d", len(c.b), c.b, m, e, c.e)
		}
	}
}

// Every head of three bytes, ahead of as many corners as it asks for.
func TestDecodeOfAllHeads(t *testing.T) { // P6.4, P6.5
	corners := bytes.Repeat([]byte{3, 1, 4, 1, 5, 9, 2}, 256*256/7+2)
	for w := range 256 {
		for h := range 256 {
			b := append([]byte{byte(w), byte(h), byte(w + h)}, corners[:(w+1)*(h+1)]...)
			m, e := relief.Decode(b)
			valid := w >= 1 && w <= 64 && h >= 1 && h <= 64
			if !valid && (e != api.ErrArg || !same(m, api.Map{})) {
				t.Errorf("Decode of %d by %d: %v, %d", w, h, m, e)
			}
			if valid && (e != api.OK || !bytes.Equal(relief.Encode(m), b)) {
				t.Errorf("Decode of %d by %d: %d, or encoded otherwise", w, h, e)
			}
		}
	}
}

func TestResultsAreNewMemory(t *testing.T) { // P6.4 with R3
	m := example()
	b := relief.Encode(m)
	m.Corners[0] = 99
	if b[3] != 0 {
		t.Errorf("Encode shares its corners with the map")
	}
	b[4] = 77
	if !bytes.Equal(m.Corners, []byte{99, 10, 20, 30}) {
		t.Errorf("Encode shares the map's corners: %v", m.Corners)
	}
	in := []byte{1, 1, 5, 0, 10, 20, 30}
	got, _ := relief.Decode(in)
	in[3] = 99
	if got.Corners[0] != 0 {
		t.Errorf("Decode keeps the bytes")
	}
	got.Corners[1] = 77
	if !bytes.Equal(in, []byte{1, 1, 5, 99, 10, 20, 30}) {
		t.Errorf("Decode shares the bytes: %v", in)
	}
	// What lies beyond the corners' length is nobody's either.
	room := append(make([]byte, 0, 64), 0, 10, 20, 30)
	_ = append(relief.Encode(api.Map{W: 1, H: 1, Water: 5, Corners: room}), 1, 2, 3)
	if !bytes.Equal(room[:8], []byte{0, 10, 20, 30, 0, 0, 0, 0}) {
		t.Errorf("Encode wrote into its argument: %v", room[:8])
	}
	wide := append(make([]byte, 0, 64), 1, 1, 5, 0, 10, 20, 30)
	got, _ = relief.Decode(wide)
	_ = append(got.Corners, 9)
	if wide[:8][7] != 0 {
		t.Errorf("Decode shares what lies beyond the bytes")
	}
}

func TestArgumentsStayAsTheyAre(t *testing.T) { // R3
	for _, m := range maps() {
		before := slices.Clone(m.Corners)
		relief.Check(m)
		relief.On(m, 0, 0)
		relief.Height(m, 1, 1)
		relief.Slope(m, 0, 0)
		relief.Depth(m, 0, 0)
		b := relief.Encode(m)
		copied := slices.Clone(b)
		relief.Decode(b)
		if !bytes.Equal(m.Corners, before) || !bytes.Equal(b, copied) {
			t.Errorf("an argument of %d by %d was changed", m.W, m.H)
		}
	}
}
