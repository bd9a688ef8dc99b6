package search_test

import (
	"slices"
	"testing"

	"boundstone/api"
	"boundstone/search"
)

// answerOf says whether a fact holds in all, in none or in some of some solutions.
func answerOf(f api.Fact, l [][]api.Point) api.Answer {
	holds := 0
	for _, s := range l {
		if bareHolds(f, s) != f.Not {
			holds++
		}
	}
	switch holds {
	case len(l):
		return api.Yes
	case 0:
		return api.No
	}
	return api.Open
}

// checkDecide checks what is said of a fact in all solutions of a problem.
func checkDecide(t *testing.T, p api.Problem, f api.Fact, l [][]api.Point) {
	t.Helper()
	answer, e := search.Decide(p, f)
	tree, g := search.Prove(p, f)
	if len(l) == 0 {
		if e != api.ErrClash || answer != 0 || g != api.ErrClash || len(tree) != 0 {
			t.Fatalf("P3.11, P3.12: of %v, which contradicts itself, Decide is %d, %d, Prove %v, %d", p, answer, e, tree, g)
		}
		return
	}
	want := answerOf(f, l)
	if e != api.OK || answer != want {
		t.Fatalf("P3.11: Decide of %v and %v is %d, %d, not %d", p, f, answer, e, want)
	}
	if want != api.Yes {
		if g != api.ErrNone || len(tree) != 0 {
			t.Fatalf("P3.12: Prove of %v and %v is %v, %d", p, f, tree, g)
		}
		return
	}
	if g != api.OK || len(tree) > nodes || !fits(plus(p, not(f)), tree) {
		t.Fatalf("P3.12: Prove of %v and %v is %v, %d, which does not fit", p, f, tree, g)
	}
	errorIs(t, "P3.12", search.CheckProof(p, f, tree), api.OK)
	errorIs(t, "P3.12", search.CheckProof(p, f, nil), api.ErrProof)
	errorIs(t, "P3.13", search.CheckProof(p, not(f), tree), api.ErrProof)
}

func TestDecideOfTheExample(t *testing.T) {
	p := example()
	l := solutions(p)
	for _, x := range []struct {
		f    api.Fact
		want api.Answer
	}{
		{north(0, 0, 1, 1, 5), api.Open},
		{not(north(0, 0, 1, 1, 5)), api.Open},
		{dist(0, 0, 1, 20, 30), api.Yes},
		{not(dist(0, 0, 1, 20, 30)), api.No},
		{east(1<<40, 1, 0, 1, 5), api.No},
		{quarter(4, 1, 0, api.West), api.Yes},
		{near(0, 0, 1, 5), api.Yes},
		{near(0, 0, 1, 4), api.Open},
		{near(0, 0, 1, 3), api.No},
	} {
		if got, e := search.Decide(p, x.f); got != x.want || e != api.OK {
			t.Errorf("P3.11: Decide of %v is %d, %d, not %d", x.f, got, e, x.want)
		}
		checkDecide(t, p, x.f, l)
	}
}

func TestDecideOfRandomProblems(t *testing.T) {
	r := newRand(3, 11)
	var told [4]int
	for range 4000 {
		p := randomProblem(r)
		if len(p.Boxes) < 2 {
			continue
		}
		f, l := randomFact(r, len(p.Boxes)), solutions(p)
		checkDecide(t, p, f, l)
		if len(l) > 0 {
			told[answerOf(f, l)]++
		}
	}
	if min(told[api.Yes], told[api.No], told[api.Open]) < 50 {
		t.Errorf("the answers of random problems are %v", told)
	}
}

// asked returns the errors of all functions that are asked about a fact.
func asked(p api.Problem, f api.Fact, tree []api.Node) [3]api.Errno {
	_, d := search.Decide(p, f)
	_, v := search.Prove(p, f)
	return [3]api.Errno{d, v, search.CheckProof(p, f, tree)}
}

func TestErrorsOfDecide(t *testing.T) {
	full := problem(threeBoxes(), slices.Repeat([]api.Fact{always(1, 0, 1)}, 60)...)
	clashing := problem(full.Boxes, slices.Concat(full.Facts[:59], []api.Fact{east(1, 0, 1, 9, 9)})...)
	long := make([]api.Node, nodes+1)
	for _, f := range wrongFacts() {
		for _, p := range []api.Problem{problem(threeBoxes()), full, clashing, beside(huge(), problem(threeBoxes()[:1]))} {
			if got := asked(p, f, long); got != [3]api.Errno{api.ErrArg, api.ErrArg, api.ErrArg} {
				t.Errorf("P3.11, P3.12: the errors of %v are %v", f, got)
			}
		}
	}
	for _, p := range []api.Problem{full, clashing} {
		if got := asked(p, near(1, 0, 1, 4), []api.Node{leaf(60)}); got != [3]api.Errno{api.ErrLimit, api.ErrLimit, api.ErrLimit} {
			t.Errorf("P3.11, P3.12: the errors for %d facts are %v", len(p.Facts), got)
		}
	}
	full.Facts = full.Facts[:59]
	if got := asked(full, near(1, 0, 1, 4), []api.Node{leaf(59)}); got != [3]api.Errno{} {
		t.Errorf("P3.11, P3.12: the errors for %d facts are %v", len(full.Facts), got)
	}
	if got := asked(problem(nil), near(1, 0, 1, 4), nil); got != [3]api.Errno{api.ErrArg, api.ErrArg, api.ErrArg} {
		t.Errorf("P3.11, P3.12: the errors for no points are %v", got)
	}
	if got := asked(hidden(), near(1, 0, 1, 4), nil); got != [3]api.Errno{api.ErrClash, api.ErrClash, api.ErrProof} {
		t.Errorf("P3.11, P3.12: the errors for a contradiction are %v", got)
	}
}

func TestDecideOfLargeProblems(t *testing.T) {
	wide := []api.Box{box(0, 1023, 0, 127), box(0, 0, 0, 0)}
	half := east(1, 1, 0, 0, 511) // both halves are tractable, the whole is not
	for i, x := range []struct {
		p    api.Problem
		f    api.Fact
		want api.Answer
		e    api.Errno
	}{
		{problem(wide), half, api.Open, api.OK},
		{problem(wide, always(1, 0, 1)), half, 0, api.ErrLimit},
		{problem(wide), east(1, 1, 0, 0, 500), 0, api.ErrLimit}, // the other half is too large
		{problem(wide), not(east(1, 1, 0, 0, 500)), 0, api.ErrLimit},
		{problem(wide), east(1, 1, 0, 0, 520), 0, api.ErrLimit},
		{problem(wide), not(east(1, 1, 0, 0, 520)), 0, api.ErrLimit},
		{problem(wide), east(1, 1, 0, 0, 1023), 0, api.ErrLimit}, // must hold, but connects what is too large
		{problem(wide), east(1, 1, 0, 2000, 3000), 0, api.ErrLimit},
		{problem([]api.Box{box(0, 15, 0, 15), box(0, 15, 0, 15)}), dist(1, 0, 1, 0, 450), api.Yes, api.OK},
		{problem([]api.Box{box(0, 15, 0, 15), box(0, 15, 0, 16)}), dist(1, 0, 1, 0, 900), 0, api.ErrLimit},
		{problem([]api.Box{box(0, 9, 0, 9), box(0, 9, 0, 9), box(50, 59, 0, 9), box(50, 59, 0, 9)}, always(1, 0, 1), always(1, 2, 3)), near(1, 1, 2, 90), 0, api.ErrLimit},
		{beside(problem(wide), hidden()), east(1, 1, 0, 0, 500), 0, api.ErrLimit},
		{beside(problem(wide), hidden()), half, 0, api.ErrClash},
		{plus(problem(wide, always(1, 0, 1)), east(1, 1, 0, 3000, 3000)), half, 0, api.ErrClash},
	} {
		if got, e := search.Decide(x.p, x.f); got != x.want || e != x.e {
			t.Errorf("P3.11: Decide of the problem %d is %d, %d, not %d, %d", i, got, e, x.want, x.e)
		}
		tree, e := search.Prove(x.p, x.f)
		want := x.e
		if want == api.OK && x.want != api.Yes {
			want = api.ErrNone
		}
		if e != want || e == api.OK && !fits(plus(x.p, not(x.f)), tree) {
			t.Errorf("P3.12: Prove of the problem %d is %d nodes, %d", i, len(tree), e)
		}
	}
}

func TestCheckProof(t *testing.T) {
	p := problem([]api.Box{box(0, 1023, 0, 1023), box(0, 0, 0, 0)}, east(1, 1, 0, 0, 511))
	f := east(2, 1, 0, 0, 600)
	right := []api.Node{cutAt(0, 0, 511), leaf(1), leaf(0)} // the problem need not be tractable
	for i, x := range []struct {
		p    api.Problem
		f    api.Fact
		tree []api.Node
		want api.Errno
	}{
		{p, f, right, api.OK},
		{p, f, []api.Node{cutAt(0, 0, 600), leaf(1), leaf(0)}, api.OK},
		{p, f, []api.Node{cutAt(0, 0, 601), leaf(1), leaf(0)}, api.ErrProof},
		{p, f, []api.Node{cutAt(0, 0, 510), leaf(1), leaf(0)}, api.ErrProof},
		{p, f, []api.Node{cutAt(0, 0, 511), leaf(0), leaf(1)}, api.ErrProof},
		{p, f, []api.Node{cutAt(0, 0, 511), leaf(1), leaf(2)}, api.ErrProof},
		{p, f, nil, api.ErrProof},
		{p, not(f), right, api.ErrProof},
		{p, not(not(f)), right, api.OK},
		{p, east(2, 1, 0, 0, 510), right, api.ErrProof},
		{p, east(2, 1, 0, -600, 511), right, api.OK},
		{p, not(east(2, 1, 0, 512, 1023)), right, api.OK},
		{p, f, make([]api.Node, nodes+1), api.ErrLimit},
		{p, f, make([]api.Node, nodes), api.ErrProof},
		{p, f, slices.Concat(right, right), api.ErrProof},
	} {
		errorIs(t, "P3.12", search.CheckProof(x.p, x.f, x.tree), x.want)
		if len(x.tree) <= nodes && (x.want == api.OK) != fits(plus(x.p, not(x.f)), x.tree) {
			t.Fatalf("the proof %d is wrong", i)
		}
	}
	long := problem([]api.Box{box(0, 1023, 0, 1023), one(at(0, -9))})
	errorIs(t, "P3.12", search.CheckProof(long, not(near(1, 0, 1, 8)), bigTree(long.Boxes[0], nodes/2)), api.OK)
	errorIs(t, "P3.12", search.CheckProof(long, not(near(1, 0, 1, 8)), bigTree(long.Boxes[0], nodes/2+1)), api.ErrLimit)
}

// TestAcceptedProofsAreRight gives proofs of one fact to others.
func TestAcceptedProofsAreRight(t *testing.T) {
	r := newRand(3, 12)
	for range 3000 {
		p := randomProblem(r)
		if len(p.Boxes) < 2 {
			continue
		}
		f, g := randomFact(r, len(p.Boxes)), randomFact(r, len(p.Boxes))
		tree, e := search.Prove(p, f)
		if e != api.OK {
			continue
		}
		g.Kind, g.A, g.B, g.C, g.Quarter = f.Kind, f.A, f.B, f.C, f.Quarter
		g.Span = span(min(f.Span.Lo, g.Span.Lo), max(f.Span.Hi, g.Span.Hi))
		if g.Kind == api.FaQuarter {
			g.Span = api.Span{}
		}
		if g.Kind == api.FaNear {
			g.Span.Lo = 0
		}
		l := solutions(p)
		if e := search.CheckProof(p, g, tree); (e == api.OK) != fits(plus(p, not(g)), tree) || e == api.OK && len(l) > 0 && answerOf(g, l) != api.Yes {
			t.Fatalf("P3.13: CheckProof of %v, %v and %v is %d", p, g, tree, e)
		}
	}
}
