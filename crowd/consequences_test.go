package crowd_test

import (
	"math/rand"
	"slices"
	"testing"

	"bivouac/api"
	"bivouac/crowd"
)

func TestExamples(t *testing.T) { // the chapter's examples
	settles(t, on(3, []int{0, 1}, []int{1, 2}), 1, 2)
	settles(t, on(3, []int{0, 1}, []int{1, 0}), 0, 1)
	settles(t, on(3, []int{0, 2}, []int{1, 1}), 1, 2)
}

// What holds of all crowds in the end.
func TestInTheEnd(t *testing.T) { // P15.4
	for _, s := range crowds(10, 3000) {
		where, moved := settle(t, s)
		taken := map[int]bool{}
		for i, cell := range where {
			if cell != nowhere && taken[cell] {
				t.Fatalf("Settle of %v: %v, two on %d", s, where, cell)
			}
			taken[cell] = true
			if moved[i] && (cell != s.wish[i] || cell == nowhere || s.where[i] == nowhere) || !moved[i] && cell != s.where[i] {
				t.Fatalf("Settle of %v: %v, %v, %d neither stayed nor moved to its wish", s, where, moved, i)
			}
			if cell != nowhere && !s.open[cell] && cell != s.where[i] {
				t.Fatalf("Settle of %v: %v, %d is on a closed cell", s, where, i)
			}
		}
	}
}

func TestWhoHolds(t *testing.T) { // P15.4
	for _, s := range crowds(11, 3000) {
		where, moved := settle(t, s)
		holders := held(t, s)
		k := 0
		for i, cell := range s.wish {
			if s.where[i] == nowhere || cell == nowhere || cell == where[i] {
				continue
			}
			if k == len(holders) {
				t.Fatalf("Held of %v: %v, too few", s, holders)
			}
			h := holders[k]
			k++
			if !s.open[cell] && h == -1 {
				continue
			}
			if h < 0 || h >= len(where) || h == i || where[h] != cell {
				t.Fatalf("Held of %v: %v, %d is not held by %d", s, holders, i, h)
			}
			if moved[h] && s.wish[h] != cell || !moved[h] && s.where[h] != cell {
				t.Fatalf("Held of %v: %v, %d neither stayed nor moved to %d", s, holders, h, cell)
			}
		}
		if k != len(holders) {
			t.Fatalf("Held of %v: %v, too many", s, holders)
		}
	}
}

// Once it is done, who settles again stays, and is held as before.
func TestSettleAgain(t *testing.T) { // P15.4
	for _, s := range crowds(12, 2000) {
		where, _ := settle(t, s)
		holders := held(t, s)
		again := scene{s.cells, s.open, where, s.wish}
		settles(t, again, where...)
		if !slices.Equal(held(t, again), holders) {
			t.Fatalf("Held of %v: %v, and when it has settled %v", s, holders, held(t, again))
		}
	}
}

// ask is all that the functions answer, in one list.
func (s scene) ask() []int {
	where, moved, e := crowd.Settle(s.cells, s.open, s.where, s.wish)
	holders, f := crowd.Held(s.cells, s.open, s.where, s.wish)
	list := []int{int(check(s)), int(e), int(f), len(where), len(moved), len(holders)}
	for _, m := range moved {
		if m {
			list = append(list, 1)
		} else {
			list = append(list, 0)
		}
	}
	return slices.Concat(list, where, holders)
}

func TestAnswersStayTheSame(t *testing.T) { // R4
	list := crowds(13, 400)
	r := rand.New(rand.NewSource(14))
	for range 100 {
		list = append(list, strangeScene(r))
	}
	var before [][]int
	for _, s := range list {
		before = append(before, s.ask())
	}
	for _, k := range r.Perm(len(list)) {
		if a := list[k].clone().ask(); !slices.Equal(a, before[k]) {
			t.Fatalf("%v: %v, and then %v", list[k], before[k], a)
		}
	}
}

// roomy is a scene in lists behind which there is more memory.
func (s scene) roomy() (scene, []int) {
	room := slices.Concat(s.where, []int{77, 77}, s.wish, []int{77, 77})
	n := len(s.where)
	return scene{s.cells, s.open, room[:n], room[n+2 : n+2+len(s.wish)]}, room
}

func TestArgumentsAreNotChanged(t *testing.T) { // R3
	r := rand.New(rand.NewSource(15))
	for _, s := range append(crowds(16, 500), strangeScene(r), strangeScene(r)) {
		s, room := s.roomy()
		before, all := s.clone(), slices.Clone(room)
		s.ask()
		if !s.is(before) || !slices.Equal(room, all) {
			t.Fatalf("arguments were changed: %v, want %v", s, before)
		}
	}
}

func TestResultsAreNewMemory(t *testing.T) { // R3
	for _, s := range crowds(17, 500) {
		before := s.clone()
		where, moved := settle(t, s)
		holders := held(t, s)
		want := s.end()
		spoil(s.where, s.wish)
		for i := range s.open {
			s.open[i] = !s.open[i]
		}
		if !slices.Equal(where, want.where) || !slices.Equal(moved, want.moved) || !slices.Equal(holders, want.holders) {
			t.Fatalf("results changed with the arguments of %v", before)
		}
		s = before.clone()
		where, moved = settle(t, s)
		other, others := settle(t, s)
		holders = held(t, s)
		spoil(where, holders)
		for i := range moved {
			moved[i] = !moved[i]
		}
		if !s.is(before) || !slices.Equal(other, want.where) || !slices.Equal(others, want.moved) {
			t.Fatalf("arguments or other results changed with the results of %v", before)
		}
		where, moved = settle(t, s)
		if !slices.Equal(where, want.where) || !slices.Equal(moved, want.moved) || !slices.Equal(held(t, s), want.holders) {
			t.Fatalf("what was done with results is in the next ones of %v", before)
		}
	}
}

// spoil writes over all of the lists, and over what they have behind their ends.
func spoil(lists ...[]int) {
	for _, l := range lists {
		l = l[:cap(l)]
		for i := range l {
			l[i] = -99
		}
	}
}

// Any arguments are answered: what is wrong as Check says it, what is not by the words.
func TestAnyArguments(t *testing.T) { // R1, R2
	r := rand.New(rand.NewSource(18))
	errors := map[api.Errno]int{}
	for range 20000 {
		s := strangeScene(r)
		e := s.fault()
		errors[e]++
		if e != api.OK {
			refuses(t, s, e)
			continue
		}
		settlesAsItShall(t)(s)
		heldAsItShall(t)(s)
	}
	for _, e := range []api.Errno{api.OK, api.ErrArg, api.ErrRange, api.ErrFull} {
		if errors[e] < 300 {
			t.Errorf("%d was drawn %d times only", e, errors[e])
		}
	}
}
