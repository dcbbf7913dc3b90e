package crater_test

import (
	"bytes"
	"math"
	"math/rand"

	"bivouac/api"
)

// flat is a map of one height.
func flat(w, h, height int) api.Map {
	return api.Map{W: w, H: h, Water: (w + 3*h) % 256, Corners: bytes.Repeat([]byte{byte(height)}, (w+1)*(h+1))}
}

// rough is a map of heights up to most, the least and the greatest among them.
func rough(seed int64, w, h, most int) api.Map {
	r := rand.New(rand.NewSource(seed))
	m := flat(w, h, 0)
	m.Water = r.Intn(256)
	for c := range m.Corners {
		m.Corners[c] = byte([]int{0, most, r.Intn(most + 1), r.Intn(most + 1)}[r.Intn(4)])
	}
	return m
}

// sides are those of one cell, of one row, of one column, different ones, and the greatest.
var sides = [][2]int{{1, 1}, {2, 1}, {1, 2}, {2, 2}, {3, 2}, {64, 1}, {1, 64}, {7, 5}, {5, 9}, {31, 17}, {64, 64}}

// maps are valid ones of every shape.
func maps() []api.Map {
	var list []api.Map
	for k, s := range sides {
		w, h := s[0], s[1]
		list = append(list, flat(w, h, 0), flat(w, h, 255), flat(w, h, 60))
		list = append(list, rough(int64(2*k), w, h, 255), rough(int64(2*k+1), w, h, 20))
	}
	return list
}

// wrongMaps are not valid.
func wrongMaps() []api.Map {
	long := make([]byte, 66*66)
	of := func(w, h, water, corners int) api.Map {
		return api.Map{W: w, H: h, Water: water, Corners: long[:corners]}
	}
	return []api.Map{
		{},
		of(0, 1, 0, 2), of(1, 0, 0, 2), of(0, 0, 0, 1), // no side
		of(-1, 1, 0, 0), of(1, -1, 0, 0), of(-3, -3, 0, 4),
		of(65, 1, 0, 132), of(1, 65, 0, 132), of(65, 65, 0, 66*66), // too great a side
		of(math.MinInt, 1, 0, 4), of(1, math.MinInt, 0, 4), of(math.MaxInt, 1, 0, 4), of(1, math.MaxInt, 0, 4),
		of(math.MaxInt, math.MaxInt, 0, 0), of(1<<32-1, 1<<32-1, 0, 0), of(1<<32, 1<<32, 0, 1),
		of(1, 1, -1, 4), of(1, 1, 256, 4), of(1, 1, math.MinInt, 4), of(1, 1, math.MaxInt, 4), // water
		of(1, 1, 5, 3), of(1, 1, 5, 0), of(2, 3, 5, 11), of(64, 64, 255, 65*65-1), // too few corners
		of(1, 1, 5, 5), of(2, 3, 5, 13), of(3, 2, 5, 66*66), of(64, 64, 0, 65*65+1), // too many
	}
}

// wrongHits are not valid, each by one of its four numbers or by several.
func wrongHits() []api.Hit {
	var list []api.Hit
	for _, n := range []int{math.MinInt, math.MinInt + 1, -1 << 32, -129, -65, 129, 193, 1 << 32, math.MaxInt - 1, math.MaxInt} {
		list = append(list, api.Hit{I: n, J: 3, Radius: 2, Deep: 8}, api.Hit{I: 3, J: n, Radius: 2, Deep: 8})
	}
	for _, n := range []int{math.MinInt, -1 << 32, -8, -1, 0, 9, 1<<32 + 1, 1 << 32, math.MaxInt} {
		list = append(list, api.Hit{I: 3, J: 3, Radius: n, Deep: 8})
	}
	for _, n := range []int{math.MinInt, -1 << 32, -255, -1, 256, 257, 1<<32 + 1, 1 << 32, math.MaxInt} {
		list = append(list, api.Hit{I: 3, J: 3, Radius: 2, Deep: n})
	}
	return append(list, api.Hit{}, api.Hit{I: -65, J: 129, Radius: 9, Deep: 256},
		api.Hit{I: math.MinInt, J: math.MinInt, Radius: math.MinInt, Deep: math.MinInt},
		api.Hit{I: math.MaxInt, J: math.MaxInt, Radius: math.MaxInt, Deep: math.MaxInt})
}

// hitsOn are valid ones: inside of a map, at its edges and its corners, beside it, and far from it.
func hitsOn(m api.Map) []api.Hit {
	var list []api.Hit
	add := func(i, j int) {
		for _, radius := range []int{1, 2, 5, 8} {
			for _, deep := range []int{0, 1, 30, 255} {
				list = append(list, api.Hit{I: i, J: j, Radius: radius, Deep: deep})
			}
		}
	}
	places := func(cells int) []int {
		return []int{-64, -8, -7, -1, 0, 1, cells / 2, cells, cells + 1, cells + 4, cells + 7, cells + 8, 128}
	}
	for _, i := range places(m.W) {
		for _, j := range places(m.H) {
			if i <= 128 && j <= 128 {
				add(i, j)
			}
		}
	}
	return list
}

// someHits are as many valid ones as are asked for, most of them about corners of the map.
func someHits(r *rand.Rand, m api.Map, count int) []api.Hit {
	at := func(cells int) int {
		if r.Intn(10) == 0 {
			return r.Intn(193) - 64
		}
		return r.Intn(cells+9) - 4
	}
	list := make([]api.Hit, 0, count)
	for range count {
		list = append(list, api.Hit{I: at(m.W), J: at(m.H), Radius: 1 + r.Intn(8), Deep: r.Intn([]int{5, 40, 256}[r.Intn(3)])})
	}
	return list
}

// lowersOf counts up to the greatest number of which r times as many are at most Deep (r - s), so that nothing is divided.
func lowersOf(h api.Hit, i, j int) int {
	x, y := max(i, h.I)-min(i, h.I), max(j, h.J)-min(j, h.J)
	r := h.Radius * h.Radius
	left := h.Deep * (r - x*x - y*y)
	n := 0
	for ; left >= r; left -= r {
		n++
	}
	return n
}

// cornersOf are a map's behind hits: each is what remains of its height when all that it is lowered by is counted off.
func cornersOf(m api.Map, hits ...api.Hit) []byte {
	corners := bytes.Clone(m.Corners)
	for c := range corners {
		i, j := c%(m.W+1), c/(m.W+1)
		for _, h := range hits {
			for range lowersOf(h, i, j) {
				if corners[c] > 0 {
					corners[c]--
				}
			}
		}
	}
	return corners
}

func same(a, b api.Map) bool {
	return a.W == b.W && a.H == b.H && a.Water == b.Water && bytes.Equal(a.Corners, b.Corners)
}

func empty(m api.Map) bool { return same(m, api.Map{}) }
