package route_test

import (
	"math/rand"
	"slices"
	"testing"

	"bivouac/api"
	"bivouac/route"
)

func TestExamples(t *testing.T) { // the chapter's examples
	l := landOf(3, 2, true)
	cost(t, l, 0, 5, 5, api.OK)
	if path := way(t, l, 0, 5, 9); !slices.Equal(path, []int{0, 1, 5}) {
		t.Errorf("Way(0, 5, 9): %v", path)
	}
	noWay(t, l, 0, 5, 4, api.ErrFar)
	l.Open[1] = false
	cost(t, l, 0, 5, 6, api.OK)
	if path := way(t, l, 0, 5, 9); !slices.Equal(path, []int{0, 3, 4, 5}) {
		t.Errorf("Way(0, 5, 9) with cell 1 closed: %v", path)
	}
}

func TestCostsInBothDirections(t *testing.T) { // P13.4
	r := rand.New(rand.NewSource(8))
	for _, l := range lands() {
		cells := cellsOf(r, l, 4)
		to := make([][]int, len(cells))
		for k, c := range cells {
			to[k] = costs(t, l, c)
		}
		for k, a := range cells {
			for m, b := range cells {
				n, e := route.Cost(l, a, b)
				back, backE := route.Cost(l, b, a)
				if to[k][b] != to[m][a] || n != back || e != backE {
					t.Fatalf("the cost from %d to %d: %d and %d, back %d and %d\n%s", a, b, to[m][a], n, to[k][b], back, drawing(l))
				}
			}
		}
	}
}

func TestCostsByWayOfAThirdCell(t *testing.T) { // P13.4
	r := rand.New(rand.NewSource(9))
	for _, l := range lands() {
		cells := cellsOf(r, l, 4)
		for _, b := range cells {
			toB := costs(t, l, b)
			for _, third := range cells {
				toThird := costs(t, l, third)
				for a := range l.Open {
					if toThird[a] < 0 || toB[third] < 0 {
						continue
					}
					if toB[a] < 0 || toB[a] > toThird[a]+toB[third] {
						t.Fatalf("the cost from %d to %d is %d, by way of %d %d and %d\n%s", a, b, toB[a], third, toThird[a], toB[third], drawing(l))
					}
				}
			}
		}
	}
}

// costOfStep is that of the possible step from one cell to another one, or 0.
func costOfStep(l api.Land, from, to int) int {
	for k := range directions {
		if next, cost, possible := stepOf(l, from, k); possible && next == to {
			return cost
		}
	}
	return 0
}

func TestStepsOfPaths(t *testing.T) { // P13.4
	r := rand.New(rand.NewSource(10))
	for _, l := range lands() {
		for _, to := range cellsOf(r, l, 2) {
			for _, from := range cellsOf(r, l, 3) {
				path, e := route.Way(l, from, to, 1<<20)
				if e != api.OK {
					continue
				}
				if path[0] != from || path[len(path)-1] != to {
					t.Fatalf("the way from %d to %d: %v", from, to, path)
				}
				total, times := 0, make([]int, len(l.Open))
				for k, c := range path {
					times[c]++
					if k > 0 {
						step := costOfStep(l, path[k-1], c)
						total += step
						if step == 0 {
							t.Fatalf("from %d to %d no step is possible: %v\n%s", path[k-1], c, path, drawing(l))
						}
					}
				}
				if slices.Max(times) != 1 {
					t.Fatalf("the way from %d to %d contains a cell twice: %v", from, to, path)
				}
				cost(t, l, from, to, total, api.OK)
			}
		}
	}
}

// question is a call on a land.
type question struct{ kind, from, to, most int }

// answer is all that a call can answer.
type answer struct {
	list []int
	n    int
	e    api.Errno
}

func (a answer) is(b answer) bool { return slices.Equal(a.list, b.list) && a.n == b.n && a.e == b.e }

func (q question) ask(l api.Land) answer {
	var a answer
	switch q.kind {
	case 0:
		a.list, a.e = route.Costs(l, q.to)
	case 1:
		a.n, a.e = route.Cost(l, q.from, q.to)
	case 2:
		a.list, a.e = route.Way(l, q.from, q.to, q.most)
	}
	return a
}

// questions are about cells of a land, and about no cells.
func questions(r *rand.Rand, l api.Land) []question {
	var list []question
	cells := append(cellsOf(r, l, 3), -1, len(l.Open))
	for _, to := range cells {
		from := cells[r.Intn(len(cells))]
		list = append(list, question{0, 0, to, 0}, question{1, from, to, 0}, question{2, from, to, 1 << 20}, question{2, from, to, r.Intn(40)})
	}
	return list
}

func TestLandsAreNotChanged(t *testing.T) { // P13.4 with R3 and R4
	r := rand.New(rand.NewSource(11))
	for _, l := range lands() {
		room := append(slices.Clone(l.Open), true, false, true)
		given := api.Land{W: l.W, H: l.H, Open: room[:len(l.Open)]}
		asked := questions(r, l)
		var before []answer
		for _, q := range asked {
			before = append(before, q.ask(given))
		}
		if !slices.Equal(room, append(slices.Clone(l.Open), true, false, true)) {
			t.Fatalf("the land was changed\n%s\n%s", drawing(l), drawing(given))
		}
		var kept []answer
		for _, a := range before {
			kept = append(kept, answer{slices.Clone(a.list), a.n, a.e})
		}
		for c := range room {
			room[c] = !room[c]
		}
		questions(r, given)[0].ask(given)
		for k, a := range before {
			if !a.is(kept[k]) {
				t.Fatalf("%v: an answer changed with the land\n%s", asked[k], drawing(l))
			}
		}
	}
}

// What is asked in between, of which lands, and in which order, makes no difference.
func TestAnswersStayTheSame(t *testing.T) { // P13.4 with R4
	r := rand.New(rand.NewSource(12))
	all := lands()
	asked, before := make([][]question, len(all)), make([][]answer, len(all))
	for k, l := range all {
		asked[k] = questions(r, l)
		for _, q := range asked[k] {
			before[k] = append(before[k], q.ask(l))
		}
	}
	for _, k := range r.Perm(len(all)) {
		again := cloned(all[k])
		for _, m := range r.Perm(len(asked[k])) {
			if a := asked[k][m].ask(again); !a.is(before[k][m]) {
				t.Fatalf("%v: %v, and then %v\n%s", asked[k][m], before[k][m], a, drawing(again))
			}
		}
	}
}

// Any land, any cells and any number are answered, and beside an error there is nothing.
func TestAnyArguments(t *testing.T) { // R1, R2
	r := rand.New(rand.NewSource(15))
	number := func() int {
		switch r.Intn(4) {
		case 0:
			return noSides[r.Intn(len(noSides))]
		case 1:
			return int(r.Uint64()) >> r.Intn(64)
		}
		return r.Intn(10)
	}
	for range 20000 {
		l := api.Land{W: number(), H: number(), Open: make([]bool, r.Intn(70))}
		valid := l.W >= 1 && l.W <= maxSide && l.H >= 1 && l.H <= maxSide
		if valid && r.Intn(3) > 0 {
			l.Open = make([]bool, l.W*l.H)
		}
		for c := range l.Open {
			l.Open[c] = r.Intn(4) > 0
		}
		valid = valid && len(l.Open) == l.W*l.H
		q := question{r.Intn(3), number(), number(), number()}
		a := q.ask(l)
		if (a.e == api.ErrArg) == valid || a.e != api.OK && !a.is(answer{e: a.e}) {
			t.Fatalf("%v of %d by %d with %d cells: %v", q, l.W, l.H, len(l.Open), a)
		}
	}
}
