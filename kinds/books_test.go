package kinds_test

import (
	"math"
	"math/bits"
	"math/rand"
	"slices"

	"bivouac/api"
)

// The bytes of a book: two numbers, then its kinds, then its weapons; of each where its Speed begins, and of a weapon its Under.
const (
	head        = 2
	kindBytes   = 35
	weaponBytes = 14
	kindSpeed   = 27
	weaponSpeed = 6
	weaponUnder = 5
)

// field is a number of a kind or of a weapon: its bounds, and where its bytes are; a Speed has eight.
type field[T any] struct {
	name        string
	least, most int64
	at, size    int
	set         func(t *T, v int64)
	get         func(t T) int64
}

func number[T any](name string, least, most int64, at, size int, of func(t *T) *int) field[T] {
	return field[T]{name, least, most, at, size, func(t *T, v int64) { *of(t) = int(v) }, func(t T) int64 { return int64(*of(&t)) }}
}

func speed[T any](least, most int64, at int, of func(t *T) *int64) field[T] {
	return field[T]{"Speed", least, most, at, 8, func(t *T, v int64) { *of(t) = v }, func(t T) int64 { return *of(&t) }}
}

// kindFields are all but Weapon, whose bounds are the book's.
func kindFields() []field[api.Kind] {
	return []field[api.Kind]{
		number("Class", 0, 5, 0, 1, func(k *api.Kind) *int { return &k.Class }),
		number("Health", 1, 9999, 1, 2, func(k *api.Kind) *int { return &k.Health }),
		number("Turn", 0, 32768, 3, 2, func(k *api.Kind) *int { return &k.Turn }),
		number("Metal", 0, 65535, 5, 2, func(k *api.Kind) *int { return &k.Metal }),
		number("Energy", 0, 65535, 7, 2, func(k *api.Kind) *int { return &k.Energy }),
		number("Work", 1, 65535, 9, 2, func(k *api.Kind) *int { return &k.Work }),
		number("StoreM", 0, 65535, 11, 2, func(k *api.Kind) *int { return &k.StoreM }),
		number("StoreE", 0, 65535, 13, 2, func(k *api.Kind) *int { return &k.StoreE }),
		number("Wreck", 0, 65535, 15, 2, func(k *api.Kind) *int { return &k.Wreck }),
		number("Sight", 0, 32, 17, 1, func(k *api.Kind) *int { return &k.Sight }),
		number("Radar", 0, 32, 18, 1, func(k *api.Kind) *int { return &k.Radar }),
		number("Sonar", 0, 32, 19, 1, func(k *api.Kind) *int { return &k.Sonar }),
		number("Jam", 0, 32, 20, 1, func(k *api.Kind) *int { return &k.Jam }),
		number("GiveM", 0, 255, 21, 1, func(k *api.Kind) *int { return &k.GiveM }),
		number("GiveE", 0, 255, 22, 1, func(k *api.Kind) *int { return &k.GiveE }),
		number("EatE", 0, 255, 23, 1, func(k *api.Kind) *int { return &k.EatE }),
		number("Build", 0, 255, 24, 1, func(k *api.Kind) *int { return &k.Build }),
		number("Carry", 0, 4, 25, 1, func(k *api.Kind) *int { return &k.Carry }),
		speed(0, 65536, kindSpeed, func(k *api.Kind) *int64 { return &k.Speed }),
	}
}

func weaponOf() field[api.Kind] {
	return number("Weapon", 0, 255, 26, 1, func(k *api.Kind) *int { return &k.Weapon })
}

// weaponFields are all but Under.
func weaponFields() []field[api.Weapon] {
	return []field[api.Weapon]{
		number("Damage", 0, 9999, 0, 2, func(w *api.Weapon) *int { return &w.Damage }),
		number("Reach", 1, 32, 2, 1, func(w *api.Weapon) *int { return &w.Reach }),
		number("Reload", 1, 255, 3, 1, func(w *api.Weapon) *int { return &w.Reload }),
		number("Splash", 0, 8, 4, 1, func(w *api.Weapon) *int { return &w.Splash }),
		speed(1, 262144, weaponSpeed, func(w *api.Weapon) *int64 { return &w.Speed }),
	}
}

// kindAt is where in a book's bytes a kind begins; weaponAt, in a book with so many kinds, where a weapon does.
func kindAt(n int) int          { return head + kindBytes*n }
func weaponAt(kinds, n int) int { return head + kindBytes*kinds + weaponBytes*n }

// example is the chapter's.
func example() api.Book {
	return api.Book{Kinds: []api.Kind{{Health: 1, Work: 1, Weapon: 255}}}
}

// middling is a book whose fields all differ from each other, and from book to book of its kinds.
func middling(kinds, weapons int) api.Book {
	var b api.Book
	for n := range kinds {
		k := api.Kind{
			Class: n % 6, Health: 0x1001 + n, Speed: int64(0x8000 + 3*n), Turn: 0x1102 + n,
			Sight: 1 + n, Radar: 2 + n, Sonar: 3 + n, Jam: 4 + n,
			Metal: 0x1203 + n, Energy: 0x1304 + n, Work: 0x1405 + n,
			GiveM: 105 + n, GiveE: 126 + n, EatE: 147 + n,
			StoreM: 0x1506 + n, StoreE: 0x1607 + n,
			Build: 168 + n, Carry: n % 5, Weapon: 255, Wreck: 0x1708 + n,
		}
		if weapons > 0 && n%3 > 0 {
			k.Weapon = n % weapons
		}
		b.Kinds = append(b.Kinds, k)
	}
	for n := range weapons {
		b.Weapons = append(b.Weapons, api.Weapon{
			Reach: 10 + n, Damage: 0x1809 + n, Speed: int64(0x18000 + 5*n), Reload: 30 + n, Splash: n % 9, Under: n%2 == 1,
		})
	}
	return b
}

// extreme is a book whose fields all are at their least, or all at their greatest number.
func extreme(kinds, weapons int, most bool) api.Book {
	b := api.Book{Kinds: make([]api.Kind, kinds), Weapons: make([]api.Weapon, weapons)}
	for n := range kinds {
		for _, f := range kindFields() {
			f.set(&b.Kinds[n], pick(most, f.most, f.least))
		}
		if most || weapons == 0 {
			b.Kinds[n].Weapon = 255
		}
	}
	for n := range weapons {
		for _, f := range weaponFields() {
			f.set(&b.Weapons[n], pick(most, f.most, f.least))
		}
		b.Weapons[n].Under = most
	}
	return b
}

func pick[T any](is bool, a, b T) T {
	if is {
		return a
	}
	return b
}

// drawn is any valid book.
func drawn(r *rand.Rand) api.Book {
	b := api.Book{Kinds: make([]api.Kind, 1+r.Intn(16)), Weapons: make([]api.Weapon, r.Intn(17))}
	between := func(least, most int64) int64 {
		return []int64{least, most, least + r.Int63n(most-least+1), least + r.Int63n(most-least+1)}[r.Intn(4)]
	}
	for n := range b.Kinds {
		for _, f := range kindFields() {
			f.set(&b.Kinds[n], between(f.least, f.most))
		}
		b.Kinds[n].Weapon = 255
		if len(b.Weapons) > 0 && r.Intn(3) > 0 {
			b.Kinds[n].Weapon = r.Intn(len(b.Weapons))
		}
	}
	for n := range b.Weapons {
		for _, f := range weaponFields() {
			f.set(&b.Weapons[n], between(f.least, f.most))
		}
		b.Weapons[n].Under = r.Intn(2) == 1
	}
	return b
}

// books are valid ones: of each number of kinds and of weapons, at the bounds of all fields, and drawn ones.
func books() []api.Book {
	list := []api.Book{example()}
	for kinds := 1; kinds <= 16; kinds++ {
		for weapons := range 17 {
			list = append(list, middling(kinds, weapons), extreme(kinds, weapons, false), extreme(kinds, weapons, true))
		}
	}
	r := rand.New(rand.NewSource(10))
	for range 500 {
		list = append(list, drawn(r))
	}
	return list
}

// wrongNumbers are those about the bounds of a field, and far beyond them, also such as would be within if they were cut to fewer bits.
func wrongNumbers(least, most int64) []int64 {
	list := []int64{least - 1, most + 1, math.MinInt64, math.MinInt64 + 1, math.MaxInt64, math.MaxInt64 - 1}
	for _, cut := range []int64{1 << 8, 1 << 16, 1 << 32} {
		list = append(list, least-cut, most-cut, least+cut, most+cut)
	}
	return slices.DeleteFunc(list, func(v int64) bool { return least <= v && v <= most })
}

// wrongBooks are not valid, each in one thing.
func wrongBooks() []api.Book {
	list := []api.Book{
		{}, {Kinds: []api.Kind{}, Weapons: []api.Weapon{}}, middling(0, 1), middling(0, 16), middling(0, 17),
		middling(17, 0), middling(17, 3), middling(1, 17), middling(16, 17), middling(17, 17), middling(300, 256),
	}
	for _, f := range kindFields() {
		for _, v := range wrongNumbers(f.least, f.most) {
			b := middling(3, 2)
			f.set(&b.Kinds[1], v)
			list = append(list, b)
		}
	}
	for _, v := range []int{-1, 2, 254, 256, 511, math.MinInt, math.MaxInt} {
		b := middling(3, 2)
		b.Kinds[1].Weapon = v
		list = append(list, b)
	}
	for _, f := range weaponFields() {
		for _, v := range wrongNumbers(f.least, f.most) {
			b := middling(3, 2)
			f.set(&b.Weapons[1], v)
			list = append(list, b)
		}
	}
	return list
}

// speedBits are those of a float whose value is a speed of 0 or more: its leading bit is left out, the others follow the exponent.
func speedBits(v int64) uint64 {
	if v == 0 {
		return 0
	}
	power := bits.Len64(uint64(v)) - 1
	return uint64(power-16+1023)<<52 | uint64(v)<<(52-power)&(1<<52-1)
}

// put writes a number into bytes, the lowest byte first.
func put(b []byte, v uint64) {
	for n := range b {
		b[n] = byte(v % 256)
		v /= 256
	}
}

// got is the number that put wrote.
func got(b []byte) uint64 {
	v := uint64(0)
	for n := range b {
		v = 256*v + uint64(b[len(b)-1-n])
	}
	return v
}

// write is a field's bytes, each at its place.
func write[T any](b []byte, t T, fields []field[T]) {
	for _, f := range fields {
		v := uint64(f.get(t))
		if f.name == "Speed" {
			v = speedBits(f.get(t))
		}
		put(b[f.at:f.at+f.size], v)
	}
}

// bytesOf are the chapter's for a valid book.
func bytesOf(b api.Book) []byte {
	kinds := len(b.Kinds)
	out := make([]byte, weaponAt(kinds, len(b.Weapons)))
	out[0], out[1] = byte(kinds), byte(len(b.Weapons))
	for n, k := range b.Kinds {
		write(out[kindAt(n):], k, append(kindFields(), weaponOf()))
	}
	for n, w := range b.Weapons {
		at := weaponAt(kinds, n)
		write(out[at:], w, weaponFields())
		if w.Under {
			out[at+weaponUnder] = 1
		}
	}
	return out
}

func same(a, b api.Book) bool {
	return slices.Equal(a.Kinds, b.Kinds) && slices.Equal(a.Weapons, b.Weapons)
}

func clone(b api.Book) api.Book {
	return api.Book{Kinds: slices.Clone(b.Kinds), Weapons: slices.Clone(b.Weapons)}
}

// zero: is it the zero value, which has no slices, not even empty ones?
func zero(b api.Book) bool { return b.Kinds == nil && b.Weapons == nil }
