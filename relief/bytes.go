package relief

import (
	"bytes"

	"bivouac/api"
)

// head is how many bytes stand ahead of the corners: W, H and Water.
const head = 3

// Encode is a map's bytes.
func Encode(m api.Map) []byte {
	if Check(m) != api.OK {
		return nil
	}
	b := []byte{byte(m.W), byte(m.H), byte(m.Water)}
	return append(b, m.Corners...)
}

// Decode is the map of bytes.
func Decode(b []byte) (api.Map, api.Errno) {
	if len(b) < head {
		return api.Map{}, api.ErrShort
	}
	m := api.Map{W: int(b[0]), H: int(b[1]), Water: int(b[2]), Corners: b[head:]}
	if e := Check(m); e != api.OK {
		return api.Map{}, e
	}
	// Copied only now: bytes that are refused are not worth it, however many they are.
	m.Corners = bytes.Clone(m.Corners)
	return m, api.OK
}
