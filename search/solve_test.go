package search_test

import (
	"reflect"
	"slices"
	"testing"

	"boundstone/api"
	"boundstone/search"
)

// checkSolve checks what is said of all solutions of a problem that is tractable.
func checkSolve(t *testing.T, p api.Problem, want [][]api.Point) {
	t.Helper()
	l, e := search.Solve(p)
	if len(want) == 0 && (e != api.ErrClash || len(l) != 0) {
		t.Fatalf("P3.5: Solve of %v, which contradicts itself, is %v, %d", p, l, e)
	}
	if len(want) > 0 && (e != api.OK || !slices.ContainsFunc(want, func(s []api.Point) bool { return slices.Equal(s, l) })) {
		t.Fatalf("P3.5: Solve of %v is %v, %d", p, l, e)
	}
	if n, e := search.Count(p); n != len(want) || e != api.OK {
		t.Fatalf("P3.5: Count of %v is %d, %d, not %d", p, n, e, len(want))
	}
	all, e := search.All(p)
	if len(want) == 0 && (e != api.ErrClash || len(all) != 0) {
		t.Fatalf("P3.18: All of %v, which contradicts itself, is %v, %d", p, all, e)
	}
	if len(want) > 0 && (e != api.OK || !slices.EqualFunc(all, want, slices.Equal[[]api.Point])) {
		t.Fatalf("P3.18: All of %v is %v, %d, not %v", p, all, e, want)
	}
	boxes, e := search.Hull(p)
	if len(want) == 0 && (e != api.ErrClash || len(boxes) != 0) {
		t.Fatalf("P3.6: Hull of %v, which contradicts itself, is %v, %d", p, boxes, e)
	}
	if len(want) > 0 && (e != api.OK || !slices.Equal(boxes, hullOf(want))) {
		t.Fatalf("P3.6: Hull of %v is %v, %d, not %v", p, boxes, e, hullOf(want))
	}
}

func TestSolutionsOfTheExample(t *testing.T) {
	want := [][]api.Point{path(0, 0, 4, -3), path(0, 0, 4, 3), path(0, 0, 5, 0)}
	checkSolve(t, example(), want)
	checkSolve(t, hidden(), nil)
	checkSolve(t, plus(example(), east(9, 0, 1, 6, 6)), nil)
	checkSolve(t, beside(example(), hidden()), nil)
	checkSolve(t, beside(hidden(), example()), nil)
}

func TestSolutionsOfRandomProblems(t *testing.T) {
	r := newRand(3, 5)
	solvable := 0
	for range 3000 {
		p := randomProblem(r)
		want := solutions(p)
		checkSolve(t, p, want)
		if len(want) > 0 {
			solvable++
		}
	}
	if solvable < 300 || solvable > 2700 {
		t.Errorf("of the random problems %d have solutions", solvable)
	}
}

func TestSolutionsOfNothing(t *testing.T) {
	l, e := search.Solve(api.Problem{})
	n, f := search.Count(api.Problem{})
	if len(l) != 0 || e != api.OK || n != 1 || f != api.OK {
		t.Errorf("P3.5: of no points Solve is %v, %d, Count %d, %d", l, e, n, f)
	}
	boxes, e := search.Hull(api.Problem{})
	if len(boxes) != 0 || e != api.OK {
		t.Errorf("P3.6: Hull of no points is %v, %d", boxes, e)
	}
	all, e := search.All(api.Problem{})
	if len(all) != 1 || len(all[0]) != 0 || e != api.OK {
		t.Errorf("P3.18: All of no points is %v, %d", all, e)
	}
}

func TestSolutionsOfFreePoints(t *testing.T) {
	p := problem([]api.Box{box(-limit, 1023-limit, 5, 1028), box(7, 9, 7, 7)})
	p = beside(p, example())
	l, e := search.Solve(p)
	if _, is := search.Allows(p, l); e != api.OK || !is {
		t.Errorf("P3.5: Solve of %v is %v, %d", p, l, e)
	}
	if n, e := search.Count(p); n != 1024*1024*3*3 || e != api.OK {
		t.Errorf("P3.5: Count of %v is %d, %d", p, n, e)
	}
	boxes, e := search.Hull(p)
	if e != api.OK || !slices.Equal(boxes, []api.Box{p.Boxes[0], p.Boxes[1], p.Boxes[2], box(4, 5, -3, 3)}) {
		t.Errorf("P3.6: Hull of %v is %v, %d", p, boxes, e)
	}
}

func TestGreatCounts(t *testing.T) {
	whole := box(0, 1023, 0, 1023)
	for i, x := range []struct {
		p    api.Problem
		want int
		e    api.Errno
	}{
		{problem([]api.Box{whole, whole, whole}), 1 << 60, api.OK},
		{problem([]api.Box{whole, whole, whole, box(0, 1, 0, 1)}), 1 << 62, api.OK},
		{problem([]api.Box{box(0, 1, 0, 1), whole, whole, whole}), 1 << 62, api.OK},
		{problem([]api.Box{whole, whole, whole, box(0, 4, 0, 0)}), 0, api.ErrRange},
		{problem([]api.Box{whole, whole, whole, whole}), 0, api.ErrRange},
		{problem([]api.Box{whole, whole, whole, box(0, 15, 0, 0)}), 0, api.ErrRange}, // 2^64
		{problem(slices.Repeat([]api.Box{whole}, 12)), 0, api.ErrRange},
		{problem([]api.Box{whole, whole, whole, one(at(0, 0)), box(0, 2, 0, 0)}, near(1, 3, 4, 2)), 3 << 60, api.OK},
		{problem([]api.Box{whole, whole, whole, one(at(0, 0)), box(0, 4, 0, 0)}, near(1, 3, 4, 4)), 0, api.ErrRange},
		{beside(problem(slices.Repeat([]api.Box{whole}, 4)), hidden()), 0, api.OK},
		{beside(hidden(), problem(slices.Repeat([]api.Box{whole}, 4))), 0, api.OK},
	} {
		if got, e := search.Count(x.p); got != x.want || e != x.e {
			t.Errorf("P3.5: Count of the problem %d is %d, %d, not %d, %d", i, got, e, x.want, x.e)
		}
	}
}

func TestTractable(t *testing.T) {
	whole := problem([]api.Box{box(0, 255, 0, 255), box(0, 0, 0, 0)}, always(1, 0, 1))
	for _, p := range []api.Problem{whole, beside(whole, whole), beside(whole, problem([]api.Box{box(0, 1023, 0, 1023)})),
		plus(huge(), east(1, 0, 1, -511, 99)), // is narrowed to what is allowed
		problem([]api.Box{box(0, 31, 0, 15), box(0, 0, 0, 0), box(0, 15, 0, 7)}, always(1, 0, 1), always(1, 2, 1)),
	} {
		l, e := search.Solve(p)
		if _, is := search.Allows(p, l); e != api.OK || !is {
			t.Errorf("P3.5: Solve of a tractable problem is %v, %d", l, e)
		}
		if boxes, e := search.Hull(p); e != api.OK || len(boxes) != len(p.Boxes) || boxes[0].Y != p.Boxes[0].Y {
			t.Errorf("P3.6: Hull of a tractable problem is %v, %d", boxes, e)
		}
	}
	if n, e := search.Count(beside(whole, whole)); n != 1<<32 || e != api.OK {
		t.Errorf("P3.5: Count of two parts is %d, %d", n, e)
	}
	empty := plus(huge(), east(1, 0, 1, 1, 9))
	if _, e := search.Solve(empty); e != api.ErrClash {
		t.Errorf("P3.5: the error of Solve for an empty problem is %d", e)
	}
	if n, e := search.Count(empty); n != 0 || e != api.OK {
		t.Errorf("P3.5: Count of an empty problem is %d, %d", n, e)
	}
	if _, e := search.Hull(empty); e != api.ErrClash {
		t.Errorf("P3.6: the error of Hull for an empty problem is %d", e)
	}
}

func TestLimitComesBeforeClash(t *testing.T) {
	barely := problem([]api.Box{box(0, 330, 0, 197), box(0, 0, 0, 0)}, always(1, 0, 1)) // 65538
	for _, p := range []api.Problem{barely, huge(), beside(huge(), hidden()), beside(hidden(), huge()), beside(example(), huge()), beside(huge(), problem(slices.Repeat([]api.Box{box(0, 1023, 0, 1023)}, 4)))} {
		_, e := search.Solve(p)
		errorIs(t, "P3.5: Solve", e, api.ErrLimit)
		_, e = search.Count(p)
		errorIs(t, "P3.5: Count", e, api.ErrLimit)
		_, e = search.Hull(p)
		errorIs(t, "P3.6: Hull", e, api.ErrLimit)
		_, e = search.Extent(p, 1)
		errorIs(t, "P3.6: Extent", e, api.ErrLimit)
		_, e = search.Refute(p)
		errorIs(t, "P3.7: Refute", e, api.ErrLimit)
		_, e = search.Core(p)
		errorIs(t, "P3.10: Core", e, api.ErrLimit)
		_, e = search.Decide(p, near(1, 0, 1, 0))
		errorIs(t, "P3.11: Decide", e, api.ErrLimit)
		_, e = search.Prove(p, near(1, 0, 1, 0))
		errorIs(t, "P3.12: Prove", e, api.ErrLimit)
		_, e = search.All(p)
		errorIs(t, "P3.18: All", e, api.ErrLimit)
	}
}

func TestAllOfManyChoices(t *testing.T) {
	p := problem([]api.Box{box(0, 255, 0, 127), box(0, 0, 0, 1)})
	all, e := search.All(p)
	if e != api.OK || !reflect.DeepEqual(all, choices(p.Boxes)) {
		t.Errorf("P3.18: All of %d choices is %d solutions, %d", volume, len(all), e)
	}
	for i, x := range []struct {
		p    api.Problem
		want int
		e    api.Errno
	}{
		{problem([]api.Box{box(0, 330, 0, 197)}), 0, api.ErrLimit}, // 65538, although no fact names the point
		{problem([]api.Box{box(0, 255, 0, 127), box(0, 0, 0, 2)}), 0, api.ErrLimit},
		{problem(slices.Repeat([]api.Box{box(0, 1023, 0, 1023)}, 12)), 0, api.ErrLimit},
		{beside(problem([]api.Box{box(0, 0, 0, 65)}), beside(problem([]api.Box{box(0, 9, 0, 9)}), hidden())), 0, api.ErrLimit},
		{beside(problem([]api.Box{box(0, 1, 0, 0)}), beside(problem([]api.Box{box(0, 9, 0, 9)}), hidden())), 0, api.ErrClash},
		{beside(problem(slices.Repeat([]api.Box{box(0, 1023, 0, 1023)}, 10)), plus(example(), east(9, 0, 1, 6, 6))), 0, api.ErrClash},
		{beside(problem([]api.Box{box(0, 600, 0, 0)}), example()), 601 * 3, api.OK}, // 27 choices are left of the example
		{plus(huge(), dist(1, 0, 1, 1, 1)), 2, api.OK},
		{plus(huge(), near(1, 0, 1, 200)), 201 * 128, api.OK},
	} {
		if all, e := search.All(x.p); len(all) != x.want || e != x.e {
			t.Errorf("P3.18: All of the problem %d is %d solutions, %d, not %d, %d", i, len(all), e, x.want, x.e)
		}
	}
}

func TestOneMoreFact(t *testing.T) {
	r := newRand(3, 16)
	for range 2000 {
		p := randomProblem(r)
		if len(p.Boxes) < 2 {
			continue
		}
		f, g := randomFact(r, len(p.Boxes)), randomFact(r, len(p.Boxes))
		q := plus(p, g)
		many, _ := search.Count(p)
		fewer, _ := search.Count(q)
		if fewer > many {
			t.Fatalf("P3.16: Count of %v is %d, with %v %d", p, many, g, fewer)
		}
		if fewer == 0 {
			continue
		}
		whole, _ := search.Hull(p)
		boxes, _ := search.Hull(q)
		for i, b := range boxes {
			if !inside(b, whole[i]) {
				t.Fatalf("P3.16: Hull of %v is %v, with %v %v", p, whole, g, boxes)
			}
		}
		before, _ := search.Decide(p, f)
		after, e := search.Decide(q, f)
		if e != api.OK || before != api.Open && after != before {
			t.Fatalf("P3.16: Decide of %v and %v is %d, with %v %d, %d", p, f, before, g, after, e)
		}
	}
}

func moved(l []api.Box, x, y int) []api.Box {
	var m []api.Box
	for _, b := range l {
		m = append(m, box(b.X.Lo+x, b.X.Hi+x, b.Y.Lo+y, b.Y.Hi+y))
	}
	return m
}

func TestMovedProblems(t *testing.T) {
	r := newRand(3, 17)
	for range 1000 {
		p := randomProblem(r)
		q := copied(p)
		x, y := []int{-9, 7, limit - 12, 12 - limit}[r.IntN(4)], []int{-5, 0, limit - 12, 12 - limit}[r.IntN(4)]
		q.Boxes = moved(q.Boxes, x, y)
		r.Shuffle(len(q.Facts), func(i, k int) { q.Facts[i], q.Facts[k] = q.Facts[k], q.Facts[i] })
		checkSame(t, p, q, func(l []api.Box) []api.Box { return moved(l, x, y) })
		if len(p.Boxes) > 1 {
			f := randomFact(r, len(p.Boxes))
			one, e := search.Decide(p, f)
			two, g := search.Decide(q, f)
			if one != two || e != g {
				t.Fatalf("P3.17: Decide of %v is %d, %d, of %v %d, %d", p, one, e, q, two, g)
			}
		}
	}
}

// checkSame checks that two problems have the same counts, and boxes that are the same but for what is done to those of the first one.
func checkSame(t *testing.T, p, q api.Problem, done func(l []api.Box) []api.Box) {
	t.Helper()
	one, _ := search.Count(p)
	two, _ := search.Count(q)
	if one != two {
		t.Fatalf("P3.17: Count of %v is %d, of %v %d", p, one, q, two)
	}
	l, e := search.Narrow(p)
	m, f := search.Narrow(q)
	if e != f || e == api.OK && !slices.Equal(m, done(l)) {
		t.Fatalf("P3.17: Narrow of %v is %v, %d, of %v %v, %d", p, l, e, q, m, f)
	}
	l, e = search.Hull(p)
	m, f = search.Hull(q)
	if e != f || e == api.OK && !slices.Equal(m, done(l)) {
		t.Fatalf("P3.17: Hull of %v is %v, %d, of %v %v, %d", p, l, e, q, m, f)
	}
}

func TestNumbersOfPointsOnlyNameThem(t *testing.T) {
	r := newRand(3, 18)
	for range 1000 {
		p := randomProblem(r)
		names := r.Perm(len(p.Boxes))
		renamed := func(l []api.Box) []api.Box {
			m := make([]api.Box, len(l))
			for i, b := range l {
				m[names[i]] = b
			}
			return m
		}
		q := api.Problem{Boxes: renamed(p.Boxes)}
		for _, f := range p.Facts {
			f.A, f.B = names[f.A], names[f.B]
			if f.Kind == api.FaTurn {
				f.C = names[f.C]
			}
			q.Facts = append(q.Facts, f)
		}
		checkSame(t, p, q, renamed)
	}
}
