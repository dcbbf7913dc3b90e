package kinds

import (
	"math"

	"bivouac/api"
	"bivouac/real"
)

// withKind takes a valid kind. The order of fields is that of reader.kind.
func withKind(bytes []byte, k api.Kind) []byte {
	bytes = fields(bytes, 1, k.Class)
	bytes = fields(bytes, 2, k.Health, k.Turn, k.Metal, k.Energy, k.Work, k.StoreM, k.StoreE, k.Wreck)
	bytes = fields(bytes, 1, k.Sight, k.Radar, k.Sonar, k.Jam, k.GiveM, k.GiveE, k.EatE, k.Build, k.Carry, k.Weapon)
	return withSpeed(bytes, k.Speed)
}

// withWeapon takes a valid weapon. The order of fields is that of reader.weapon.
func withWeapon(bytes []byte, w api.Weapon) []byte {
	under := 0
	if w.Under {
		under = 1
	}
	bytes = fields(bytes, 2, w.Damage)
	bytes = fields(bytes, 1, w.Reach, w.Reload, w.Splash, under)
	return withSpeed(bytes, w.Speed)
}

func withSpeed(bytes []byte, speed int64) []byte {
	f, _ := real.To(speed) // no error is left: a valid speed is far below where one begins
	return withBits(bytes, 8, math.Float64bits(f))
}

// fields appends numbers of the same size.
func fields(bytes []byte, size int, numbers ...int) []byte {
	for _, n := range numbers {
		bytes = withBits(bytes, size, uint64(n))
	}
	return bytes
}

// withBits appends so many bytes, the lowest first.
func withBits(bytes []byte, size int, bits uint64) []byte {
	for range size {
		bytes = append(bytes, byte(bits))
		bits >>= 8
	}
	return bytes
}
