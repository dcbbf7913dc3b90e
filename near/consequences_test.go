package near_test

import (
	"math/rand"
	"slices"
	"testing"

	"bivouac/api"
	"bivouac/near"
)

func TestExamples(t *testing.T) { // the chapter's examples
	n := indexOf(t, []api.Spot{{X: 0, Y: 0}, {X: 3, Y: 4}, {X: 3, Y: 4}})
	if who := within(t, n, 0, 0, 5); !slices.Equal(who, []int{0, 1, 2}) {
		t.Errorf("Within(0, 0, 5): %v", who)
	}
	if who := within(t, n, 0, 0, 4); !slices.Equal(who, []int{0}) {
		t.Errorf("Within(0, 0, 4): %v", who)
	}
	if i := nearest(t, n, 4, 4); i != 1 {
		t.Errorf("Nearest(4, 4): %d", i)
	}
	if list := pairs(t, n, 0); !slices.Equal(list, [][2]int{{1, 2}}) {
		t.Errorf("Pairs(0): %v", list)
	}
}

// rising are distances in ascending order.
func rising(r *rand.Rand, l []api.Spot, x, y int64) []int64 {
	distances := distancesOf(r, l, x, y)
	for range 10 {
		distances = append(distances, r.Int63n(span+1), r.Int63n(1<<r.Intn(27)))
	}
	slices.Sort(distances)
	return distances
}

func TestGreaterDistances(t *testing.T) { // P12.5
	r := rand.New(rand.NewSource(8))
	for _, l := range lists() {
		n := indexOf(t, l)
		for _, at := range placesOf(r, l)[10:30] {
			var nearer []int
			for _, d := range rising(r, l, at[0], at[1]) {
				who := within(t, n, at[0], at[1], d)
				for _, i := range nearer {
					if !slices.Contains(who, i) {
						t.Fatalf("%d of %v is nearer to %v than %d, but not within it", i, l, at, d)
					}
				}
				nearer = who
			}
		}
	}
}

func TestGreaterDistancesOfPairs(t *testing.T) { // P12.5
	r := rand.New(rand.NewSource(9))
	for _, l := range lists() {
		n := indexOf(t, l)
		var nearer [][2]int
		for _, d := range rising(r, l, span/2, span/2)[:8] {
			list := pairs(t, n, d)
			at := 0
			for _, p := range nearer { // both are in the same order
				for at < len(list) && list[at] != p {
					at++
				}
				if at == len(list) {
					t.Fatalf("%v of %v are nearer than %d, but not within it", p, l, d)
				}
			}
			nearer = list
		}
	}
}

func TestSpotsAreWithinNothingOfThemselves(t *testing.T) { // P12.5
	for _, l := range lists() {
		n := indexOf(t, l)
		for i, s := range l {
			if who := within(t, n, s.X, s.Y, 0); !slices.Contains(who, i) {
				t.Fatalf("%d of %v is not within 0 of itself: %v", i, l, who)
			}
			if j := nearest(t, n, s.X, s.Y); l[j] != s || j > i {
				t.Fatalf("nearest to %d of %v is %d", i, l, j)
			}
		}
	}
}

// question is a call on an index.
type question struct {
	kind    int
	x, y, r int64
}

// answer is all that a call can answer.
type answer struct {
	who   []int
	i     int
	pairs [][2]int
	e     api.Errno
}

func (a answer) is(b answer) bool {
	return slices.Equal(a.who, b.who) && a.i == b.i && slices.Equal(a.pairs, b.pairs) && a.e == b.e
}

func (q question) ask(n *near.Index) answer {
	var a answer
	switch q.kind {
	case 0:
		a.who, a.e = n.Within(q.x, q.y, q.r)
	case 1:
		a.i, a.e = n.Nearest(q.x, q.y)
	case 2:
		a.pairs, a.e = n.Pairs(q.r)
	}
	return a
}

// questions are about all of a list; of some the numbers may not be.
func questions(r *rand.Rand, l []api.Spot) []question {
	var list []question
	for k, at := range placesOf(r, l) {
		distances := distancesOf(r, l, at[0], at[1])
		d := distances[r.Intn(len(distances))]
		list = append(list, question{0, at[0], at[1], d}, question{1, at[0], at[1], 0})
		if k%24 == 0 {
			no := noNumbers[r.Intn(len(noNumbers))]
			list = append(list, question{2, 0, 0, d}, question{0, no, at[1], d}, question{0, at[0], at[1], no}, question{1, at[0], no, 0}, question{2, 0, 0, no})
		}
	}
	return list
}

func TestChangesOfTheListHaveNoEffect(t *testing.T) { // P12.5 with R3
	r := rand.New(rand.NewSource(10))
	for _, l := range lists() {
		room := append(slices.Clone(l), times(5, api.Spot{X: 1, Y: 1})...)
		given := room[:len(l)]
		n := indexOf(t, given)
		asked := questions(r, l)
		var before []answer
		for _, q := range asked {
			before = append(before, q.ask(n))
		}
		if !slices.Equal(given, l) || !slices.Equal(room[len(l):], times(5, api.Spot{X: 1, Y: 1})) {
			t.Fatalf("the list was changed: %v, want %v", room, l)
		}
		for _, s := range []api.Spot{{}, {X: span, Y: span}, {X: -1, Y: span + 1}} {
			for i := range room {
				room[i] = s
			}
			for k, q := range asked {
				if a := q.ask(n); !a.is(before[k]) {
					t.Fatalf("%v of %v: %v, and when the list was changed: %v", q, l, before[k], a)
				}
			}
		}
	}
}

// What is asked in between, and in which order, and on which of two indexes of the same spots, makes no difference.
func TestAnswersStayTheSame(t *testing.T) { // P12.5 with R4
	r := rand.New(rand.NewSource(11))
	for _, l := range lists() {
		n := indexOf(t, l)
		asked := questions(r, l)
		var before []answer
		for _, q := range asked {
			before = append(before, q.ask(n))
		}
		other := indexOf(t, l)
		for _, k := range r.Perm(len(asked)) {
			if a := asked[k].ask(n); !a.is(before[k]) {
				t.Fatalf("%v of %v: %v, and then %v", asked[k], l, before[k], a)
			}
			if a := asked[k].ask(other); !a.is(before[k]) {
				t.Fatalf("%v of %v: %v, of another index %v", asked[k], l, before[k], a)
			}
		}
	}
}

// Two indexes have nothing in common.
func TestIndexesAreApart(t *testing.T) { // R4
	one, other := indexOf(t, corners()), indexOf(t, times(3, api.Spot{X: 9, Y: 9}))
	none := indexOf(t, nil)
	if who := within(t, one, 0, 0, span); !slices.Equal(who, []int{1, 2, 3}) {
		t.Errorf("of the first index: %v", who)
	}
	if who := within(t, other, 0, 0, span); !slices.Equal(who, []int{0, 1, 2}) {
		t.Errorf("of the second index: %v", who)
	}
	if who := within(t, none, 0, 0, span); len(who) != 0 {
		t.Errorf("of the index without spots: %v", who)
	}
}

// Any list and any numbers are answered, and beside an error there is nothing.
func TestAnyArguments(t *testing.T) { // R1, R2
	r := rand.New(rand.NewSource(13))
	number := func() int64 {
		switch r.Intn(4) {
		case 0:
			return noNumbers[r.Intn(len(noNumbers))]
		case 1:
			return int64(r.Uint64()) >> r.Intn(64)
		}
		return r.Int63n(span + 1)
	}
	for range 1000 {
		l := make([]api.Spot, []int{0, 1, 2, 5, 255, 256, 257, 1000}[r.Intn(8)])
		valid := len(l) <= most
		wrong := r.Intn(3) == 0
		for i := range l {
			l[i] = api.Spot{X: r.Int63n(span + 1), Y: r.Int63n(span + 1)}
			if wrong {
				l[i] = api.Spot{X: number(), Y: number()}
			}
			valid = valid && l[i] == spotAt(l[i].X, l[i].Y)
		}
		n, e := near.New(l)
		if (e == api.OK) != valid || (n != nil) != valid || !valid && e != api.ErrArg {
			t.Fatalf("New of %v: %d, valid: %t", l, e, valid)
		}
		for k := 0; valid && k < 10; k++ {
			q := question{r.Intn(3), number(), number(), number()}
			if a := q.ask(n); a.e != api.OK && !a.is(answer{e: a.e}) {
				t.Fatalf("%v of %v: %v", q, l, a)
			}
		}
	}
}
