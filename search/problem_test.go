package search_test

import (
	"reflect"
	"slices"
	"testing"

	"boundstone/api"
	"boundstone/search"
)

func threeBoxes() []api.Box { return slices.Repeat([]api.Box{box(0, 4, 0, 4)}, 3) }

func TestCheckAccepts(t *testing.T) {
	for _, p := range []api.Problem{
		{},
		example(),
		problem(slices.Repeat([]api.Box{box(-1, 1, -1, 1)}, 12)),
		problem(threeBoxes(), slices.Repeat([]api.Fact{near(1, 0, 1, 0)}, 60)...),
		problem(threeBoxes(), rightFacts()...),
		problem([]api.Box{box(0, 1023, 0, 1023), box(-limit, 1023-limit, limit-1023, limit), one(at(limit, -limit)), one(at(-limit, limit))}),
		problem(slices.Repeat([]api.Box{one(at(0, 0))}, 12), near(1, 11, 10, 0), turn(1, 9, 11, 0, 0, 0)),
	} {
		errorIs(t, "P3.1", search.Check(p), api.OK)
	}
	for _, f := range rightFacts() {
		errorIs(t, "P3.1", search.Check(problem(threeBoxes(), f)), api.OK)
		errorIs(t, "P3.1", search.Check(problem(threeBoxes(), not(f))), api.OK)
	}
}

func TestCheckRefuses(t *testing.T) {
	for want, l := range wrongProblems() {
		for _, p := range l {
			errorIs(t, "P3.1", search.Check(p), want)
		}
	}
	for _, b := range append(wrongBoxes(), box(0, 1024, 0, 0), box(0, 0, 0, 1024), box(-512, 512, 0, 0), box(0, 0, -limit, limit)) {
		if e := search.Check(problem([]api.Box{b})); e != api.ErrArg {
			t.Errorf("P3.1: the error of the box %v is %d", b, e)
		}
		errorIs(t, "P3.1", search.Check(problem(append(threeBoxes(), b), near(1, 0, 1, 0))), api.ErrArg)
	}
	for _, f := range wrongFacts() {
		if e := search.Check(problem(threeBoxes(), f)); e != api.ErrArg {
			t.Errorf("P3.1: the error of the fact %v is %d", f, e)
		}
		errorIs(t, "P3.1", search.Check(problem(threeBoxes(), near(1, 0, 1, 0), not(f))), api.ErrArg)
	}
	errorIs(t, "P3.1", search.Check(problem(threeBoxes()[:1], near(1, 0, 1, 0))), api.ErrArg)
	errorIs(t, "P3.1", search.Check(problem(threeBoxes()[:2], turn(1, 0, 1, 2, 0, 0))), api.ErrArg)
}

// calls returns what each function with a problem and an error returns: its results, and last the error.
func calls(p api.Problem, point int, f api.Fact, tree []api.Node) map[string][]any {
	results := func(l ...any) []any { return l }
	two := func(x any, e api.Errno) []any { return []any{x, e} }
	return map[string][]any{
		"Narrow":      results(search.Narrow(p)),
		"Parts":       results(search.Parts(p)),
		"Volume":      results(search.Volume(p)),
		"Solve":       results(search.Solve(p)),
		"Count":       results(search.Count(p)),
		"Extent":      results(search.Extent(p, point)),
		"Hull":        results(search.Hull(p)),
		"All":         results(search.All(p)),
		"Refute":      results(search.Refute(p)),
		"CheckTree":   two(nil, search.CheckTree(p, tree)),
		"CheckExtent": two(nil, search.CheckExtent(p, point, api.Extent{})),
		"Core":        results(search.Core(p)),
		"Without":     results(search.Without(p, []int{1})),
		"Only":        results(search.Only(p, []int{1})),
		"Decide":      results(search.Decide(p, f)),
		"Prove":       results(search.Prove(p, f)),
		"CheckProof":  two(nil, search.CheckProof(p, f, tree)),
	}
}

// isNothing reports whether a result is a zero value, or a list of nothing.
func isNothing(x any) bool {
	v := reflect.ValueOf(x)
	return !v.IsValid() || v.IsZero() || v.Kind() == reflect.Slice && v.Len() == 0
}

func TestErrorOfCheckComesFirst(t *testing.T) {
	long := make([]api.Node, nodes+1)
	for want, l := range wrongProblems() {
		for _, p := range l {
			for _, f := range []api.Fact{near(1, 0, 1, 0), {}} {
				for name, l := range calls(p, -1, f, long) {
					if l[1] != want {
						t.Errorf("P3.1: the error of %s for a problem that is not valid is %v, not %v", name, l[1], want)
					}
					if !isNothing(l[0]) {
						t.Errorf("R4: together with the error %v %s returns %v", l[1], name, l[0])
					}
				}
			}
		}
	}
}

func TestNothingBesideErrors(t *testing.T) {
	full := problem(threeBoxes(), slices.Repeat([]api.Fact{always(1, 0, 1)}, 60)...)
	for _, p := range []api.Problem{hidden(), huge(), example(), full, beside(huge(), hidden()), plus(example(), near(9, 0, 1, 1)), {}} {
		for _, f := range []api.Fact{near(1, 0, 1, 0), near(1, 0, 1, 100), {}} {
			for name, l := range calls(p, 5, f, nil) {
				if l[1] != api.OK && !isNothing(l[0]) {
					t.Errorf("R4: together with the error %v %s returns %v", l[1], name, l[0])
				}
			}
		}
	}
}

func TestWithoutAndOnly(t *testing.T) {
	zero, one, two, again := near(0, 0, 1, 9), dist(1, 0, 1, 0, 9), not(east(2, 0, 1, 3, 4)), quarter(1, 1, 0, api.South)
	last := near(1<<40, 0, 1, 4)
	p := problem(threeBoxes(), one, zero, two, again, last)
	for _, x := range []struct {
		ids           []int
		without, only []api.Fact
	}{
		{nil, p.Facts, []api.Fact{zero}},
		{[]int{}, p.Facts, []api.Fact{zero}},
		{[]int{1}, []api.Fact{zero, two, last}, []api.Fact{one, zero, again}},
		{[]int{2, 1, 2}, []api.Fact{zero, last}, []api.Fact{one, zero, two, again}},
		{[]int{0}, []api.Fact{one, two, again, last}, []api.Fact{zero}},
		{[]int{2, 0}, []api.Fact{one, again, last}, []api.Fact{zero, two}},
		{[]int{7, -1, -1 << 62}, p.Facts, []api.Fact{zero}},
		{[]int{1 << 40}, []api.Fact{one, zero, two, again}, []api.Fact{zero, last}},
		{[]int{0, 1, 2, 1 << 40}, nil, p.Facts},
	} {
		q, e := search.Without(p, x.ids)
		if e != api.OK || !slices.Equal(q.Boxes, p.Boxes) || !slices.Equal(q.Facts, x.without) {
			t.Errorf("P3.9: Without of %v is %v, %d", x.ids, q, e)
		}
		q, e = search.Only(p, x.ids)
		if e != api.OK || !slices.Equal(q.Boxes, p.Boxes) || !slices.Equal(q.Facts, x.only) {
			t.Errorf("P3.9: Only of %v is %v, %d", x.ids, q, e)
		}
	}
	q, e := search.Only(api.Problem{}, []int{1})
	if e != api.OK || len(q.Boxes) != 0 || len(q.Facts) != 0 {
		t.Errorf("P3.9: Only of nothing is %v, %d", q, e)
	}
}

func TestNothingIsShared(t *testing.T) {
	p := plus(example(), near(0, 0, 1, 100))
	before := copied(p)
	ids := []int{4, 7}
	tree := []api.Node{{Fact: 0}}
	extent, _ := search.Extent(p, 1)
	calls(p, 1, near(1, 0, 1, 5), tree)
	search.CheckExtent(p, 1, extent)
	search.Allows(p, path(0, 0, 5, 0))
	narrow, _ := search.Narrow(p)
	hull, _ := search.Hull(p)
	free, _ := search.Hull(problem(p.Boxes))
	without, _ := search.Without(p, nil)
	only, _ := search.Only(p, ids)
	for _, l := range [][]api.Box{narrow, hull, free, without.Boxes, only.Boxes} {
		for i := range l {
			l[i] = box(7, 7, 7, 7)
		}
	}
	for _, l := range [][]api.Fact{without.Facts, only.Facts} {
		for i := range l {
			l[i] = api.Fact{}
		}
		_ = append(l, api.Fact{})
	}
	if !reflect.DeepEqual(p, before) || !slices.Equal(ids, []int{4, 7}) || !slices.Equal(tree, []api.Node{{Fact: 0}}) {
		t.Errorf("R6: a call, or a change of its result, changes the problem to %v", p)
	}
}

func TestArgumentsWithMoreMemory(t *testing.T) {
	facts := append(make([]api.Fact, 0, 10), example().Facts...)
	more := facts[:10]
	p := problem(example().Boxes, facts...)
	calls(p, 1, near(1, 0, 1, 5), nil)
	for _, f := range more[len(facts):] {
		if f != (api.Fact{}) {
			t.Fatalf("R6: a call writes %v behind the facts of a problem", f)
		}
	}
}

func TestSolutionsShareNothing(t *testing.T) {
	p := problem([]api.Box{box(0, 1, 0, 0), box(3, 3, 3, 3)}, always(1, 0, 1))
	all, _ := search.All(p)
	all[0][0], all[0][1] = at(9, 9), at(8, 8)
	if !slices.Equal(all[1], path(1, 0, 3, 3)) {
		t.Errorf("R6: solutions of All share memory: %v", all)
	}
	p = problem([]api.Box{box(0, 1, 0, 1), box(0, 0, 0, 0)}, near(1, 0, 1, 0), always(1, 0, 1))
	x, _ := search.Extent(p, 0)
	for side := range 4 {
		x.Ends[side][0] = at(9, side)
	}
	for i := range x.Trees[1] {
		x.Trees[1][i] = api.Node{Fact: 7}
	}
	if x.Ends[0][0] != at(9, 0) || x.Ends[1][0] != at(9, 1) || x.Ends[2][0] != at(9, 2) {
		t.Errorf("R6: ends of an extent share memory: %v", x.Ends)
	}
	if !fits(problem([]api.Box{box(0, 1, 1, 1), box(0, 0, 0, 0)}, p.Facts...), x.Trees[3]) {
		t.Errorf("R6: trees of an extent share memory: %v", x.Trees)
	}
	parts, _ := search.Parts(p)
	parts[0][0] = 7
	again, _ := search.Parts(p)
	if !reflect.DeepEqual(again, [][]int{{0, 1}}) {
		t.Errorf("R6: parts share memory: %v", again)
	}
}
