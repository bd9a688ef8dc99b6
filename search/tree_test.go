package search_test

import (
	"math"
	"slices"
	"testing"

	"boundstone/api"
	"boundstone/search"
)

func leaf(fact int) api.Node { return api.Node{Fact: fact} }

func cutAt(point, axis, at int) api.Node {
	return api.Node{Fact: -1, Point: point, Axis: axis, At: at}
}

// bigTree returns a tree with so many leaves, of the fact 0, that cuts a box of the point 0.
func bigTree(b api.Box, leaves int) []api.Node {
	if leaves == 1 {
		return []api.Node{leaf(0)}
	}
	axis, s := 0, b.X
	if b.Y.Hi-b.Y.Lo > b.X.Hi-b.X.Lo {
		axis, s = 1, b.Y
	}
	m := (s.Lo + s.Hi) >> 1
	low, high := b, b
	if axis == 0 {
		low.X.Hi, high.X.Lo = m, m+1
	} else {
		low.Y.Hi, high.Y.Lo = m, m+1
	}
	most := (low.X.Hi - low.X.Lo + 1) * (low.Y.Hi - low.Y.Lo + 1)
	few := min(leaves/2, most)
	return slices.Concat([]api.Node{cutAt(0, axis, m)}, bigTree(low, few), bigTree(high, leaves-few))
}

// checkRefute checks that Refute proves what is so.
func checkRefute(t *testing.T, p api.Problem, solvable bool) {
	t.Helper()
	tree, e := search.Refute(p)
	if solvable {
		if e != api.ErrNone || len(tree) != 0 {
			t.Fatalf("P3.7: Refute of %v, which has solutions, is %v, %d", p, tree, e)
		}
		return
	}
	if e != api.OK || len(tree) > nodes || !fits(p, tree) {
		t.Fatalf("P3.7: Refute of %v is %d nodes, %d, which do not fit", p, len(tree), e)
	}
	errorIs(t, "P3.7", search.CheckTree(p, tree), api.OK)
}

func TestRefuteOfRandomProblems(t *testing.T) {
	r := newRand(3, 8)
	for range 3000 {
		p := randomProblem(r)
		checkRefute(t, p, len(solutions(p)) > 0)
	}
}

func TestRefute(t *testing.T) {
	checkRefute(t, api.Problem{}, true)
	checkRefute(t, example(), true)
	checkRefute(t, hidden(), false)
	checkRefute(t, plus(example(), east(9, 0, 1, 6, 6)), false)
	checkRefute(t, beside(example(), hidden()), false)
	checkRefute(t, beside(problem([]api.Box{box(0, 1023, 0, 1023)}), hidden()), false)
	checkRefute(t, plus(huge(), east(1, 0, 1, 1, 9)), false) // empty, and therefore tractable
}

func TestRefuteOfHardProblems(t *testing.T) {
	odd := problem([]api.Box{box(0, 15, 0, 15), box(0, 15, 0, 15)}, dist(1, 0, 1, 43, 43))
	checkRefute(t, odd, false)
	checkRefute(t, beside(problem([]api.Box{box(0, 255, 0, 255), one(at(0, 0))}, always(1, 0, 1)), odd), false)
	// More points than places for them.
	pigeons := problem(slices.Repeat([]api.Box{box(0, 3, 0, 0)}, 5))
	for i := range 5 {
		for k := range i {
			pigeons.Facts = append(pigeons.Facts, not(near(1, i, k, 0)))
		}
	}
	checkRefute(t, pigeons, false)
	checkRefute(t, plus(problem(slices.Repeat([]api.Box{box(0, 3, 0, 0)}, 8), pigeons.Facts...), always(1, 5, 0), always(1, 6, 1), always(1, 7, 6)), false)
	// A way of narrowing as long as there is.
	long := problem(slices.Repeat([]api.Box{box(0, 1023, 0, 1023)}, 12))
	for i := range 12 {
		long.Facts = append(long.Facts, east(1, i, (i+1)%12, 0, square), north(1, i, (i+1)%12, 0, square))
	}
	long.Facts[4].Span.Lo = 1
	checkRefute(t, long, false)
	// Both: a part as large as one can be, in boxes that have to be narrowed first.
	both := problem([]api.Box{box(0, 1023, 0, 1023), box(0, 1023, 0, 1023)}, east(1, 0, 1, -15, 15), north(1, 0, 1, -15, 15), dist(1, 0, 1, 43, 43))
	both.Boxes = append(both.Boxes, box(0, 15, 0, 15))
	both.Facts = append(both.Facts, east(1, 2, 0, -1023, 0), north(1, 2, 0, -1023, 0), east(1, 2, 1, -1023, 0), north(1, 2, 1, -1023, 0))
	both.Boxes[2] = one(at(15, 15))
	checkRefute(t, both, false)
}

func TestCheckTree(t *testing.T) {
	// The point 1 is 3 farther east than the point 0, and is not.
	p := problem([]api.Box{box(0, 3, 0, 1), box(0, 3, 5, 5)}, east(1, 0, 1, 3, 3), east(2, 0, 1, 0, 2))
	right := []api.Node{cutAt(0, 0, 0), cutAt(1, 0, 2), leaf(0), leaf(1), leaf(0)}
	for i, x := range []struct {
		tree []api.Node
		want api.Errno
	}{
		{right, api.OK},
		{[]api.Node{cutAt(0, 1, 0), cutAt(0, 0, 0), cutAt(1, 0, 2), leaf(0), leaf(1), leaf(0), cutAt(0, 0, 0), cutAt(1, 0, 2), leaf(0), leaf(1), leaf(0)}, api.OK},
		{[]api.Node{cutAt(1, 0, 2), leaf(0), cutAt(0, 0, 0), leaf(1), leaf(0)}, api.OK},
		{nil, api.ErrProof},
		{right[:4], api.ErrProof},
		{right[:1], api.ErrProof},
		{append(slices.Clone(right), leaf(0)), api.ErrProof},
		{append(slices.Clone(right), right...), api.ErrProof},
		{[]api.Node{leaf(0)}, api.ErrProof},
		{[]api.Node{leaf(1)}, api.ErrProof},
		{[]api.Node{leaf(2)}, api.ErrProof},
		{[]api.Node{leaf(-2)}, api.ErrProof},
		{[]api.Node{leaf(math.MaxInt64)}, api.ErrProof},
		{[]api.Node{leaf(math.MinInt64)}, api.ErrProof},
		{[]api.Node{cutAt(0, 0, 0), leaf(0), cutAt(1, 0, 2), leaf(0), leaf(1)}, api.ErrProof}, // the tree of the greater numbers first
		{[]api.Node{cutAt(0, 0, 0), cutAt(1, 0, 2), leaf(1), leaf(0), leaf(0)}, api.ErrProof},
		{[]api.Node{cutAt(0, 0, 0), cutAt(1, 0, 2), leaf(0), leaf(0), leaf(0)}, api.ErrProof},
		{[]api.Node{cutAt(0, 0, 0), cutAt(1, 0, 2), leaf(0), leaf(1), leaf(1)}, api.ErrProof},
		{[]api.Node{cutAt(0, 0, 0), cutAt(1, 0, 1), leaf(0), leaf(1), leaf(0)}, api.ErrProof},
		{[]api.Node{cutAt(0, 0, 1), cutAt(1, 0, 2), leaf(0), leaf(1), leaf(0)}, api.ErrProof},
		{[]api.Node{cutAt(0, 0, -1), leaf(0), cutAt(0, 0, 0), cutAt(1, 0, 2), leaf(0), leaf(1), leaf(0)}, api.ErrProof}, // At before Lo
		{[]api.Node{cutAt(0, 0, 0), cutAt(1, 0, 2), leaf(0), leaf(1), cutAt(0, 0, 3), leaf(0), leaf(0)}, api.ErrProof},  // At is Hi
		{[]api.Node{cutAt(0, 0, 0), cutAt(0, 0, 0), cutAt(1, 0, 2), leaf(0), leaf(1), leaf(0), leaf(0)}, api.ErrProof},  // of just one number
		{[]api.Node{cutAt(0, 0, 0), cutAt(1, 0, 2), leaf(0), leaf(1), cutAt(1, 1, 5), leaf(0), leaf(0)}, api.ErrProof},
		{[]api.Node{cutAt(0, 0, 0), cutAt(1, 0, 2), leaf(0), leaf(1), cutAt(0, 0, 0), leaf(0), leaf(0)}, api.ErrProof}, // before Lo of what is left
		{[]api.Node{cutAt(0, 0, math.MaxInt64), leaf(0), leaf(0)}, api.ErrProof},
		{[]api.Node{cutAt(0, 0, math.MinInt64), leaf(0), leaf(0)}, api.ErrProof},
	} {
		errorIs(t, "P3.7", search.CheckTree(p, x.tree), x.want)
		if (x.want == api.OK) != fits(p, x.tree) {
			t.Fatalf("the tree %d is wrong", i)
		}
	}
}

func TestCheckTreeOfOddNodes(t *testing.T) {
	p := problem([]api.Box{box(0, 1, 0, 1), box(5, 6, 5, 6)}, near(1, 0, 1, 1))
	errorIs(t, "P3.7", search.CheckTree(p, []api.Node{leaf(0)}), api.OK)
	for _, n := range []api.Node{{Fact: 0, Point: 1}, {Fact: 0, Axis: 1}, {Fact: 0, At: 1}, {Fact: 0, At: -1}, {Fact: 0, Point: -1}} {
		errorIs(t, "P3.7", search.CheckTree(p, []api.Node{n}), api.ErrProof)
		errorIs(t, "P3.7", search.CheckTree(p, []api.Node{cutAt(0, 0, 0), leaf(0), n}), api.ErrProof)
	}
	for _, n := range []api.Node{cutAt(0, 0, 0), cutAt(0, 1, 0), cutAt(1, 0, 5), cutAt(1, 1, 5)} {
		errorIs(t, "P3.7", search.CheckTree(p, []api.Node{n, leaf(0), leaf(0)}), api.OK)
	}
	for _, n := range []api.Node{cutAt(2, 0, 0), cutAt(-1, 0, 0), cutAt(0, 2, 0), cutAt(0, -1, 0), cutAt(1, 2, 5), cutAt(math.MaxInt64, 0, 0), cutAt(math.MinInt64, 1, 0), cutAt(0, math.MinInt64, 0), {Fact: -2, Point: 0, Axis: 0, At: 0}, cutAt(0, 0, 1), cutAt(0, 1, 1), cutAt(1, 0, 4), cutAt(1, 1, 6)} {
		errorIs(t, "P3.7", search.CheckTree(p, []api.Node{n, leaf(0), leaf(0)}), api.ErrProof)
	}
	errorIs(t, "P3.7", search.CheckTree(api.Problem{}, nil), api.ErrProof)
	errorIs(t, "P3.7", search.CheckTree(api.Problem{}, []api.Node{leaf(0)}), api.ErrProof)
	errorIs(t, "P3.7", search.CheckTree(api.Problem{}, []api.Node{cutAt(0, 0, 0), leaf(0), leaf(0)}), api.ErrProof)
}

func TestCheckTreeOfNot(t *testing.T) {
	p := problem([]api.Box{box(0, 1, 0, 1), box(2, 4, 0, 1)}, not(quarter(1, 0, 1, api.East)))
	errorIs(t, "P3.7", search.CheckTree(p, []api.Node{leaf(0)}), api.OK)
	p.Boxes[1].X.Lo = 1
	errorIs(t, "P3.7", search.CheckTree(p, []api.Node{leaf(0)}), api.ErrProof)
	errorIs(t, "P3.7", search.CheckTree(p, []api.Node{cutAt(1, 0, 1), leaf(0), leaf(0)}), api.ErrProof)
}

func TestCheckTreeOfManyNodes(t *testing.T) {
	p := problem([]api.Box{box(0, 1023, 0, 1023), one(at(0, -9))}, near(1, 0, 1, 8), always(1, 0, 1))
	tree := bigTree(p.Boxes[0], nodes/2)
	if len(tree) != nodes-1 {
		t.Fatalf("the tree has %d nodes", len(tree))
	}
	errorIs(t, "P3.7", search.CheckTree(p, tree), api.OK)
	errorIs(t, "P3.7", search.CheckTree(p, append(slices.Clone(tree), leaf(0))), api.ErrProof)
	errorIs(t, "P3.7", search.CheckTree(p, append(slices.Clone(tree), leaf(0), leaf(0))), api.ErrLimit)
	errorIs(t, "P3.7", search.CheckTree(p, bigTree(p.Boxes[0], nodes/2+1)), api.ErrLimit)
	errorIs(t, "P3.7", search.CheckTree(p, make([]api.Node, nodes+1)), api.ErrLimit)
	errorIs(t, "P3.7", search.CheckTree(p, slices.Repeat([]api.Node{cutAt(0, 0, 0)}, nodes)), api.ErrProof)
	tree[len(tree)-1] = leaf(1)
	errorIs(t, "P3.7", search.CheckTree(p, tree), api.ErrProof)
}

func TestCheckTreeOfDeepTrees(t *testing.T) {
	p := problem(slices.Repeat([]api.Box{box(0, 1023, 0, 1023)}, 12), near(1, 0, 1, 0), not(always(1, 0, 1)))
	var tree []api.Node
	for point := range 12 {
		for axis := range 2 {
			for n := 1022; n >= 0; n-- {
				tree = append(tree, cutAt(point, axis, n))
			}
		}
	}
	tree = append(tree, slices.Repeat([]api.Node{leaf(1)}, 12*2*1023+1)...)
	errorIs(t, "P3.7", search.CheckTree(p, tree), api.OK)
	tree[len(tree)-1] = leaf(0)
	errorIs(t, "P3.7", search.CheckTree(p, tree), api.ErrProof)
}

// TestAcceptedTreesAreRight gives trees of one problem to others, and changed ones to the same.
func TestAcceptedTreesAreRight(t *testing.T) {
	r := newRand(3, 19)
	accepted := 0
	for range 3000 {
		p := randomProblem(r)
		tree, e := search.Refute(p)
		if e != api.OK {
			continue
		}
		q := copied(p)
		i := r.IntN(len(q.Boxes))
		q.Boxes[i] = within(r, box(-5, 5, -5, 5))
		if r.IntN(2) == 0 {
			q = problem(p.Boxes, slices.Delete(slices.Clone(p.Facts), 0, 1)...)
		}
		if e := search.CheckTree(q, tree); (e == api.OK) != fits(q, tree) || e == api.OK && len(solutions(q)) > 0 {
			t.Fatalf("P3.13: CheckTree of %v and %v is %d", q, tree, e)
		} else if e == api.OK {
			accepted++
		}
		other := slices.Clone(tree)
		n := &other[r.IntN(len(other))]
		*[]*int{&n.Fact, &n.Point, &n.Axis, &n.At}[r.IntN(4)] += r.IntN(3) - 1
		if e := search.CheckTree(p, other); (e == api.OK) != fits(p, other) {
			t.Fatalf("P3.7: CheckTree of %v and %v is %d", p, other, e)
		}
	}
	if accepted == 0 {
		t.Error("no tree of one problem is accepted for another one")
	}
}
