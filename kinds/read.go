package kinds

import (
	"bivouac/api"
	"bivouac/real"
)

// How many bytes the two numbers of a book take, a kind, and a weapon.
const (
	headSize   = 2
	kindSize   = 35
	weaponSize = 14
)

// fault is what a reader panics with: an error, and where.
type fault struct {
	e  api.Errno
	at int
}

// reader takes what it reads off the front of bytes, and panics with a fault at the first that may not be.
type reader struct {
	bytes []byte
	at    int
}

// book is all of the bytes, as a valid book.
func (r *reader) book() api.Book {
	kinds, weapons := r.head()
	var b api.Book
	for range kinds {
		b.Kinds = append(b.Kinds, r.kind())
	}
	for range weapons {
		b.Weapons = append(b.Weapons, r.weapon())
	}
	// Asked only now, although the two numbers alone may be wrong: faults of fields come first.
	if e, at := Check(b); e != api.OK {
		panic(fault{e, at})
	}
	return b
}

// head is the two numbers. Behind it there are just as many bytes as they require: none of the reads that follow runs out of them.
func (r *reader) head() (kinds, weapons int) {
	if len(r.bytes) < headSize {
		panic(fault{api.ErrShort, len(r.bytes)})
	}
	kinds, weapons = r.number(1), r.number(1)
	need := headSize + kinds*kindSize + weapons*weaponSize
	switch {
	case len(r.bytes) < need:
		panic(fault{api.ErrShort, len(r.bytes)})
	case len(r.bytes) > need:
		panic(fault{api.ErrExtra, need})
	}
	return kinds, weapons
}

// kind reads its fields as they are written here: calls are made from left to right.
func (r *reader) kind() api.Kind {
	return api.Kind{
		Class:  r.number(1),
		Health: r.number(2),
		Turn:   r.number(2),
		Metal:  r.number(2), Energy: r.number(2), Work: r.number(2),
		StoreM: r.number(2), StoreE: r.number(2),
		Wreck: r.number(2),
		Sight: r.number(1), Radar: r.number(1), Sonar: r.number(1), Jam: r.number(1),
		GiveM: r.number(1), GiveE: r.number(1), EatE: r.number(1),
		Build:  r.number(1),
		Carry:  r.number(1),
		Weapon: r.number(1),
		Speed:  r.speed(),
	}
}

// weapon reads its fields as they are written here, like kind.
func (r *reader) weapon() api.Weapon {
	return api.Weapon{
		Damage: r.number(2),
		Reach:  r.number(1),
		Reload: r.number(1),
		Splash: r.number(1),
		Under:  r.flag(),
		Speed:  r.speed(),
	}
}

func (r *reader) flag() bool {
	at := r.at
	n := r.number(1)
	if n > 1 {
		panic(fault{api.ErrForm, at})
	}
	return n == 1
}

func (r *reader) speed() int64 {
	at := r.at
	v, e := real.Bits(r.bits(8))
	if e != api.OK {
		panic(fault{e, at})
	}
	return v
}

// number takes a size of one or two bytes.
func (r *reader) number(size int) int { return int(r.bits(size)) }

// bits are so many bytes, the lowest first.
func (r *reader) bits(size int) uint64 {
	bits := uint64(0)
	for k, b := range r.bytes[r.at : r.at+size] {
		bits |= uint64(b) << (8 * k)
	}
	r.at += size
	return bits
}
