package kinds_test

import (
	"math"
	"testing"

	"bivouac/api"
	"bivouac/kinds"
)

func checks(t *testing.T, name string, b api.Book, e api.Errno, at int) {
	t.Helper()
	if gotE, gotAt := kinds.Check(b); gotE != e || gotAt != at {
		t.Errorf("Check of %s: %d at %d, want %d at %d", name, gotE, gotAt, e, at)
	}
}

func TestValidBooks(t *testing.T) { // P10.1
	for _, b := range books() {
		if e, at := kinds.Check(b); e != api.OK || at != 0 {
			t.Errorf("Check of %v: %d at %d", b, e, at)
		}
	}
	checks(t, "no weapons, not even a nil slice", api.Book{Kinds: example().Kinds, Weapons: []api.Weapon{}}, api.OK, 0)
	same := middling(1, 1)
	for len(same.Kinds) < 16 {
		same.Kinds = append(same.Kinds, same.Kinds[0])
		same.Weapons = append(same.Weapons, same.Weapons[0])
	}
	checks(t, "kinds that are all the same", same, api.OK, 0)
}

func TestCounts(t *testing.T) { // P10.1
	for _, n := range []int{0, 1, 2, 15, 16, 17, 18, 255, 256, 257, 272, 65537} {
		for _, m := range []int{0, 1, 15, 16, 17, 255, 256, 257, 65536} {
			e, at := api.ErrArg, -1
			if n >= 1 && n <= 16 && m <= 16 {
				e, at = api.OK, 0
			}
			b := api.Book{Kinds: make([]api.Kind, n), Weapons: make([]api.Weapon, m)}
			for k := range b.Kinds {
				b.Kinds[k] = example().Kinds[0]
			}
			for w := range b.Weapons {
				b.Weapons[w] = api.Weapon{Reach: 1, Speed: 1, Reload: 1}
			}
			checks(t, "valid kinds and weapons", b, e, at)
			if e != api.OK { // their number comes ahead of what they are
				checks(t, "zero kinds and weapons", api.Book{Kinds: make([]api.Kind, n), Weapons: make([]api.Weapon, m)}, e, at)
			}
		}
	}
}

// counts are how many kinds, or weapons, the fields are tried in.
var counts = []int{1, 2, 5, 16}

// places are the first, a middle and the last one of so many.
func places(n int) []int { return []int{0, n / 2, n - 1} }

func TestFieldsOfKinds(t *testing.T) { // P10.1
	for _, n := range counts {
		for _, at := range places(n) {
			for _, f := range kindFields() {
				for _, v := range []int64{f.least, f.least + 1, (f.least + f.most) / 2, f.most - 1, f.most} {
					b := middling(n, 2)
					f.set(&b.Kinds[at], v)
					checks(t, f.name, b, api.OK, 0)
				}
				for _, v := range wrongNumbers(f.least, f.most) {
					b := middling(n, 2)
					f.set(&b.Kinds[at], v)
					checks(t, f.name, b, api.ErrArg, at)
				}
			}
		}
	}
}

func TestWeaponsOfKinds(t *testing.T) { // P10.1
	for _, n := range counts {
		for _, at := range places(n) {
			for weapons := range 17 {
				try := func(v int, e api.Errno, want int) {
					t.Helper()
					b := middling(n, weapons)
					b.Kinds[at].Weapon = v
					checks(t, "Weapon", b, e, want)
				}
				try(255, api.OK, 0)
				for v := range weapons { // the last one among them
					try(v, api.OK, 0)
				}
				for _, v := range []int{weapons, weapons + 1, 17, 254, 256, 255 + 256, -1, -256, 255 - 1<<32, 1 << 32, 255 + 1<<32, math.MinInt, math.MaxInt} {
					try(v, api.ErrArg, at)
				}
			}
		}
	}
}

func TestFieldsOfWeapons(t *testing.T) { // P10.1
	for _, kindsOf := range []int{1, 4, 16} {
		for _, n := range counts {
			for _, at := range places(n) {
				for _, f := range weaponFields() {
					for _, v := range []int64{f.least, f.least + 1, (f.least + f.most) / 2, f.most - 1, f.most} {
						b := middling(kindsOf, n)
						f.set(&b.Weapons[at], v)
						checks(t, f.name, b, api.OK, 0)
					}
					for _, v := range wrongNumbers(f.least, f.most) {
						b := middling(kindsOf, n)
						f.set(&b.Weapons[at], v)
						checks(t, f.name, b, api.ErrArg, kindsOf+at)
					}
				}
				for _, under := range []bool{false, true} {
					b := middling(kindsOf, n)
					b.Weapons[at].Under = under
					checks(t, "Under", b, api.OK, 0)
				}
			}
		}
	}
}

func TestTheFirstThatIsNotValid(t *testing.T) { // P10.1
	zeros := api.Book{Kinds: make([]api.Kind, 16), Weapons: make([]api.Weapon, 16)}
	checks(t, "zero kinds and weapons", zeros, api.ErrArg, 0)
	for first := range 16 {
		zeros.Kinds[first] = api.Kind{Health: 1, Work: 1, Weapon: 15}
		checks(t, "some zero kinds, all zero weapons", zeros, api.ErrArg, first+1) // behind the last kind it is the first weapon
	}
	for first := range 15 {
		zeros.Weapons[first] = api.Weapon{Reach: 1, Speed: 1, Reload: 1}
		checks(t, "some zero weapons", zeros, api.ErrArg, 16+first+1)
	}
	zeros.Weapons[15] = zeros.Weapons[0]
	checks(t, "no zeros any more", zeros, api.OK, 0)

	both := middling(3, 3)
	both.Kinds[2].Carry, both.Weapons[0].Reach = 5, 0
	checks(t, "a kind and a weapon", both, api.ErrArg, 2)
	both.Weapons[0].Reach, both.Weapons[2].Splash = 1, -1
	checks(t, "a kind and another weapon", both, api.ErrArg, 2)
	both.Kinds[0].Weapon = 3
	checks(t, "two kinds and a weapon", both, api.ErrArg, 0)
	both.Kinds[0].Weapon, both.Kinds[2].Carry = 2, 4 // a kind may have a weapon that is not valid
	checks(t, "a weapon", both, api.ErrArg, 5)
	both.Weapons[1].Damage = 10000
	checks(t, "two weapons", both, api.ErrArg, 4)
}

func TestCheckOfWrongBooks(t *testing.T) { // P10.1
	for _, b := range wrongBooks() {
		at := -1
		if n, m := len(b.Kinds), len(b.Weapons); n == 3 && m == 2 {
			at = firstWrong(b)
		}
		checks(t, "a wrong book", b, api.ErrArg, at)
	}
}

// firstWrong is the first index that is not valid in a book of 3 kinds and 2 weapons; 5 if all are.
func firstWrong(b api.Book) int {
	for n, k := range b.Kinds {
		for _, f := range kindFields() {
			if v := f.get(k); v < f.least || v > f.most {
				return n
			}
		}
		if k.Weapon != 255 && k.Weapon != 0 && k.Weapon != 1 {
			return n
		}
	}
	for n, w := range b.Weapons {
		for _, f := range weaponFields() {
			if v := f.get(w); v < f.least || v > f.most {
				return 3 + n
			}
		}
	}
	return 5
}
