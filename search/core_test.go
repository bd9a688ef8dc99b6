package search_test

import (
	"slices"
	"testing"

	"boundstone/api"
	"boundstone/search"
)

// coreOf goes through the IDs as the chapter says, and tries all choices.
func coreOf(p api.Problem) []int {
	var left []int
	for id := 1; id < 10; id++ {
		if slices.ContainsFunc(p.Facts, func(f api.Fact) bool { return f.ID == id }) {
			left = append(left, id)
		}
	}
	for _, id := range slices.Clone(left) {
		others := slices.DeleteFunc(slices.Clone(left), func(n int) bool { return n == id })
		if len(solutions(onlyOf(p, others))) == 0 {
			left = others
		}
	}
	return left
}

func onlyOf(p api.Problem, ids []int) api.Problem {
	q := problem(p.Boxes)
	for _, f := range p.Facts {
		if f.ID == 0 || slices.Contains(ids, f.ID) {
			q.Facts = append(q.Facts, f)
		}
	}
	return q
}

func TestCore(t *testing.T) {
	boxes := []api.Box{box(0, 0, 0, 0), box(0, 9, 0, 0)}
	for _, x := range []struct {
		p    api.Problem
		want []int
	}{
		{plus(example(), east(9, 0, 1, 2, 2)), []int{4, 9}},
		{hidden(), []int{1}},
		{problem(boxes, east(0, 0, 1, 5, 5), east(0, 0, 1, 6, 6), east(3, 0, 1, 7, 7)), nil},
		{problem(boxes, east(0, 0, 1, 5, 5), east(3, 0, 1, 6, 6)), []int{3}},
		{problem(boxes, east(8, 0, 1, 3, 5), east(2, 0, 1, 5, 7), east(5, 0, 1, 7, 9)), []int{5, 8}},
		{problem(boxes, east(1<<40, 0, 1, 3, 5), east(1, 0, 1, 5, 5), east(7, 0, 1, 7, 9), east(1, 0, 1, 5, 6)), []int{7, 1 << 40}},
		{problem(boxes, east(7, 0, 1, 3, 5), east(1, 0, 1, 5, 5), east(7, 0, 1, 7, 9)), []int{7}},
		{problem(boxes, east(3, 0, 1, 1, 1), east(2, 0, 1, 1, 1), east(1, 0, 1, 2, 2)), []int{1, 3}},
		{problem(boxes, not(east(1, 0, 1, 0, 2)), not(east(2, 0, 1, 3, 6)), not(east(3, 0, 1, 6, 9)), not(east(4, 0, 1, 5, 6))), []int{1, 2, 3}},
		{beside(problem(boxes, always(2, 0, 1)), hidden()), []int{1}},
	} {
		ids, e := search.Core(x.p)
		if e != api.OK || !slices.Equal(ids, x.want) {
			t.Errorf("P3.10: Core of %v is %v, %d, not %v", x.p, ids, e, x.want)
		}
	}
}

func TestCoreOfRandomProblems(t *testing.T) {
	r := newRand(3, 10)
	for range 2000 {
		p := randomProblem(r)
		for range 3 {
			if len(p.Boxes) > 1 {
				p.Facts = append(p.Facts, randomFact(r, len(p.Boxes)))
			}
		}
		ids, e := search.Core(p)
		if len(solutions(p)) > 0 {
			if e != api.ErrNone || len(ids) != 0 {
				t.Fatalf("P3.10: Core of %v, which has solutions, is %v, %d", p, ids, e)
			}
			continue
		}
		if want := coreOf(p); e != api.OK || !slices.Equal(ids, want) {
			t.Fatalf("P3.10: Core of %v is %v, %d, not %v", p, ids, e, want)
		}
		checkCore(t, p, ids)
	}
}

// checkCore checks that IDs contradict each other, and do not without any one of them.
func checkCore(t *testing.T, p api.Problem, ids []int) {
	t.Helper()
	if q, _ := search.Only(p, ids); len(solutions(q)) > 0 {
		t.Fatalf("P3.15: the core %v of %v does not contradict itself", ids, p)
	}
	for i := range ids {
		if q, _ := search.Only(p, slices.Delete(slices.Clone(ids), i, i+1)); len(solutions(q)) == 0 {
			t.Fatalf("P3.15: the core %v of %v needs no %d", ids, p, ids[i])
		}
	}
}

func TestErrorsOfCore(t *testing.T) {
	for _, p := range []api.Problem{{}, example(), problem([]api.Box{box(0, 1, 0, 1)}), beside(example(), example())} {
		ids, e := search.Core(p)
		if e != api.ErrNone || len(ids) != 0 {
			t.Errorf("P3.10: Core of %v is %v, %d", p, ids, e)
		}
	}
	// Without the account 1 the problem is not tractable, although its other accounts contradict each other.
	far := []api.Fact{east(1, 0, 1, -511, 0), always(2, 0, 1)}
	odd := beside(problem(huge().Boxes, far...), hidden())
	odd.Facts[2].ID = 7
	ids, e := search.Core(odd)
	if e != api.ErrLimit || len(ids) != 0 {
		t.Errorf("P3.10: Core is %v, %d", ids, e)
	}
	// The account 1 is left out first, and the account 2 behind it: without both the problem is not tractable.
	late := beside(problem(huge().Boxes, east(1, 0, 1, -511, 0), east(2, 0, 1, -511, 0), always(0, 0, 1)), hidden())
	late.Facts[3].ID = 7
	ids, e = search.Core(late)
	if e != api.ErrLimit || len(ids) != 0 {
		t.Errorf("P3.10: Core is %v, %d", ids, e)
	}
	// An account that makes the problem empty hides that it is not tractable.
	empty := plus(huge(), east(4, 0, 1, 1, 9))
	ids, e = search.Core(empty)
	if e != api.OK || !slices.Equal(ids, []int{4}) {
		t.Errorf("P3.10: Core of an empty problem is %v, %d", ids, e)
	}
	empty.Facts[0].ID = 0
	empty.Facts[1].ID = 4
	ids, e = search.Core(empty)
	if e != api.ErrLimit || len(ids) != 0 {
		t.Errorf("P3.10: Core of a problem that is not tractable without its account is %v, %d", ids, e)
	}
}
