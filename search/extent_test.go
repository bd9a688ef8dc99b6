package search_test

import (
	"math"
	"reflect"
	"slices"
	"testing"

	"boundstone/api"
	"boundstone/search"
)

// checkExtent checks an extent against what all solutions say.
func checkExtent(t *testing.T, p api.Problem, point int, want [][]api.Point) {
	t.Helper()
	x, e := search.Extent(p, point)
	if len(want) == 0 {
		if e != api.ErrClash || !isNothing(x) {
			t.Fatalf("P3.6: Extent of %v, which contradicts itself, is %v, %d", p, x, e)
		}
		return
	}
	if e != api.OK || x.Box != hullOf(want)[point] {
		t.Fatalf("P3.6: Extent of the point %d of %v is %v, %d", point, p, x, e)
	}
	if wrong := wrongExtent(p, point, x); wrong != "" {
		t.Fatalf("P3.6: of the extent %v of the point %d of %v, %s", x, point, p, wrong)
	}
	if e := search.CheckExtent(p, point, x); e != api.OK {
		t.Fatalf("P3.8: CheckExtent of %v and the point %d of %v is %d", x, point, p, e)
	}
}

func TestExtentOfRandomProblems(t *testing.T) {
	r := newRand(3, 6)
	for range 1500 {
		p := randomProblem(r)
		want := solutions(p)
		for point := range p.Boxes {
			checkExtent(t, p, point, want)
		}
	}
}

func TestExtentOfTheExample(t *testing.T) {
	want := solutions(example())
	checkExtent(t, example(), 0, want)
	checkExtent(t, example(), 1, want)
	x, _ := search.Extent(example(), 1)
	if x.Box != box(4, 5, -3, 3) || len(x.Trees[0]) == 0 || len(x.Trees[1]) != 0 || len(x.Trees[2]) == 0 || len(x.Trees[3]) == 0 {
		t.Errorf("P3.6: Extent of the example is %v", x)
	}
	checkExtent(t, hidden(), 1, nil)
	checkExtent(t, plus(example(), east(9, 0, 1, 6, 6)), 1, nil)
}

func TestExtentBesideOtherParts(t *testing.T) {
	free := box(0, 1023, -7, 9)
	p := beside(example(), problem([]api.Box{free, box(3, 3, 2, 4)}))
	for point, want := range []api.Box{box(0, 0, 0, 0), box(4, 5, -3, 3), free, box(3, 3, 2, 4)} {
		x, e := search.Extent(p, point)
		if e != api.OK || x.Box != want || wrongExtent(p, point, x) != "" {
			t.Errorf("P3.6: Extent of the point %d is %v, %d: %s", point, x, e, wrongExtent(p, point, x))
		}
		errorIs(t, "P3.8", search.CheckExtent(p, point, x), api.OK)
	}
	for point := range 6 {
		_, e := search.Extent(beside(p, hidden()), point)
		errorIs(t, "P3.6", e, api.ErrClash)
	}
}

func TestExtentOfLargeBoxes(t *testing.T) {
	for _, p := range []api.Problem{
		problem([]api.Box{box(-1000, 23, 500, 1523), box(0, 0, 0, 0)}, dist(1, 0, 1, 0, 250100)),
		problem([]api.Box{box(-1000, 23, 0, 1023), box(0, 0, 0, 0)}, north(1, 1, 0, 100, 163), not(near(2, 0, 1, 150))),
		problem([]api.Box{box(0, 15, 0, 15), box(0, 15, 0, 15)}, dist(1, 0, 1, 437, 450)),
		problem([]api.Box{one(at(limit, limit)), box(limit-1023, limit, limit-63, limit)}, quarter(1, 1, 0, api.North)),
	} {
		for point := range p.Boxes {
			x, e := search.Extent(p, point)
			if wrong := wrongExtent(p, point, x); e != api.OK || wrong != "" {
				t.Errorf("P3.6: Extent of the point %d of %v is %v, %d: %s", point, p, x.Box, e, wrong)
			}
			if boxes, _ := search.Hull(p); x.Box != boxes[point] {
				t.Errorf("P3.6: Extent of the point %d of %v is %v, but Hull %v", point, p, x.Box, boxes)
			}
			errorIs(t, "P3.8", search.CheckExtent(p, point, x), api.OK)
		}
	}
}

func TestErrorsOfExtent(t *testing.T) {
	for _, p := range []api.Problem{example(), hidden(), huge(), {}} {
		for _, point := range []int{-1, len(p.Boxes), len(p.Boxes) + 1, math.MaxInt64, math.MinInt64} {
			x, e := search.Extent(p, point)
			if e != api.ErrArg || !isNothing(x) {
				t.Errorf("P3.6: Extent of the point %d, which is none, is %v, %d", point, x, e)
			}
			errorIs(t, "P3.8", search.CheckExtent(p, point, api.Extent{}), api.ErrArg)
		}
	}
}

// wrongExtents returns extents that are not proved, from one that is.
func wrongExtents(p api.Problem, x api.Extent) map[string]api.Extent {
	l := map[string]api.Extent{"nothing at all": {}, "no proofs": {Box: x.Box}, "no trees": {Box: x.Box, Ends: x.Ends}, "no ends": {Box: x.Box, Trees: x.Trees}}
	change := func(name string, side int, by func(y *api.Extent)) {
		y := x
		by(&y)
		l[name+" at the side "+string(rune('0'+side))] = y
	}
	for side := range 4 {
		change("a box that is too large", side, func(y *api.Extent) { *ends(&y.Box)[side] -= 1 - 2*(side%2) })
		change("a box that is too small", side, func(y *api.Extent) { *ends(&y.Box)[side] += 1 - 2*(side%2) })
		change("the end of another side", side, func(y *api.Extent) { y.Ends[side] = x.Ends[side^1] })
		change("no end", side, func(y *api.Extent) { y.Ends[side] = nil })
		change("an end with too few points", side, func(y *api.Extent) { y.Ends[side] = y.Ends[side][:1] })
		change("an end with too many points", side, func(y *api.Extent) { y.Ends[side] = append(slices.Clone(y.Ends[side]), at(0, 0)) })
		change("an end that is no solution", side, func(y *api.Extent) {
			corner := box(x.Box.X.Lo, x.Box.X.Lo, x.Box.Y.Lo, x.Box.Y.Lo)
			*ends(&corner)[side], *opposites(&corner)[side] = *ends(&x.Box)[side], *ends(&x.Box)[side]
			y.Ends[side] = slices.Clone(y.Ends[side])
			y.Ends[side][1] = at(corner.X.Lo, corner.Y.Lo)
			if firstWrong(p, y.Ends[side]) == -1 {
				y.Ends[side][0] = at(1, 1)
			}
		})
		change("no tree or one for nothing", side, func(y *api.Extent) {
			if len(x.Trees[side]) == 0 {
				y.Trees[side] = []api.Node{{Fact: 0}}
			} else {
				y.Trees[side] = nil
			}
		})
		change("a tree with one node more", side, func(y *api.Extent) { y.Trees[side] = append(slices.Clone(y.Trees[side]), api.Node{Fact: 0}) })
		change("a tree with a wrong fact", side, func(y *api.Extent) { y.Trees[side] = []api.Node{{Fact: 2}} })
	}
	return l
}

func TestCheckExtentRefuses(t *testing.T) {
	// All four sides have something beyond them but the greatest X, where there is nothing to prove.
	p := problem([]api.Box{box(0, 0, 0, 0), box(-5, 5, -5, 5)}, dist(4, 0, 1, 25, 25), quarter(7, 0, 1, api.East))
	x, _ := search.Extent(p, 1)
	for name, y := range wrongExtents(p, x) {
		if e := search.CheckExtent(p, 1, y); e != api.ErrProof {
			t.Errorf("P3.8: the error of an extent with %s is %d", name, e)
		}
		if wrongExtent(p, 1, y) == "" {
			t.Fatalf("an extent with %s is right", name)
		}
	}
	errorIs(t, "P3.8", search.CheckExtent(p, 0, x), api.ErrProof)
	y, _ := search.Extent(p, 0)
	errorIs(t, "P3.8", search.CheckExtent(p, 1, y), api.ErrProof)
	errorIs(t, "P3.8", search.CheckExtent(plus(p, north(9, 0, 1, 0, 9)), 1, x), api.ErrProof)
	errorIs(t, "P3.8", search.CheckExtent(hidden(), 1, x), api.ErrProof)
	errorIs(t, "P3.8", search.CheckExtent(p, 1, x), api.OK)
}

func TestCheckExtentOfOddBoxes(t *testing.T) {
	p := problem([]api.Box{box(0, 9, 0, 0), box(4, 4, 0, 0)}, near(1, 0, 1, 1))
	for _, b := range []api.Box{box(5, 3, 0, 0), box(math.MinInt64, math.MaxInt64, 0, 0), box(math.MaxInt64, math.MinInt64, 0, 0), box(3, 5, 1, 0), box(3, math.MaxInt64, 0, 0)} {
		x := api.Extent{Box: b, Ends: [4][]api.Point{path(5, 0, 4, 0), path(3, 0, 4, 0), path(5, 0, 4, 0), path(3, 0, 4, 0)}}
		errorIs(t, "P3.8", search.CheckExtent(p, 0, x), api.ErrProof)
		x.Trees[0], x.Trees[1] = []api.Node{{Fact: 0}}, []api.Node{{Fact: 0}}
		errorIs(t, "P3.8", search.CheckExtent(p, 0, x), api.ErrProof)
	}
}

func TestCheckExtentNeedsNoTractableProblem(t *testing.T) {
	p := problem([]api.Box{box(0, 1023, 0, 127), box(-5, -5, 0, 0)}, near(1, 0, 1, 900))
	l := [4][]api.Point{path(0, 7, -5, 0), path(895, 7, -5, 0), path(3, 0, -5, 0), path(3, 127, -5, 0)}
	x := api.Extent{Box: box(0, 895, 0, 127), Ends: l, Trees: [4][]api.Node{1: {{Fact: 0}}}}
	if _, e := search.Hull(p); e != api.ErrLimit {
		t.Fatalf("the problem is tractable: %d", e)
	}
	errorIs(t, "P3.8", search.CheckExtent(p, 0, x), api.OK)
	x.Box.X.Hi = 894
	x.Ends[1] = path(894, 7, -5, 0)
	errorIs(t, "P3.8", search.CheckExtent(p, 0, x), api.ErrProof)
}

func TestCheckExtentOfLongTrees(t *testing.T) {
	p := problem([]api.Box{box(0, 1023, 0, 1023), one(at(0, 0))}, east(1, 1, 0, 0, 0))
	l := [4][]api.Point{path(0, 0, 0, 0), path(0, 0, 0, 0), path(0, 0, 0, 0), path(0, 1023, 0, 0)}
	x := api.Extent{Box: box(0, 0, 0, 1023), Ends: l}
	x.Trees[1] = bigTree(box(1, 1023, 0, 1023), nodes/2)
	if len(x.Trees[1]) != nodes-1 || search.CheckExtent(p, 0, x) != api.OK {
		t.Errorf("P3.8: an extent with a tree of %d nodes has the error %d", len(x.Trees[1]), search.CheckExtent(p, 0, x))
	}
	x.Trees[1] = bigTree(box(1, 1023, 0, 1023), nodes/2+1)
	errorIs(t, "P3.8", search.CheckExtent(p, 0, x), api.ErrProof)
}

// TestAcceptedExtentsAreLeast checks that no change of an extent is accepted that is not the least box with solutions that attain it.
func TestAcceptedExtentsAreLeast(t *testing.T) {
	r := newRand(3, 13)
	for range 1000 {
		p := randomProblem(r)
		point := r.IntN(len(p.Boxes))
		x, e := search.Extent(p, point)
		if e != api.OK {
			continue
		}
		y := x
		side := r.IntN(4)
		*ends(&y.Box)[side] += 1 - 2*r.IntN(2)
		if e := search.CheckExtent(p, point, y); e != api.ErrProof {
			t.Fatalf("P3.13: CheckExtent accepts %v of the point %d of %v: %d", y, point, p, e)
		}
		q := copied(p) // of which the proof is, perhaps
		q.Boxes[point] = within(r, box(-6, 6, -6, 6))
		if want := solutions(q); search.CheckExtent(q, point, x) == api.OK && (len(want) == 0 || hullOf(want)[point] != x.Box) {
			t.Fatalf("P3.13: CheckExtent accepts %v of the point %d of %v", x, point, q)
		}
	}
}

func TestSameCallsHaveSameResults(t *testing.T) {
	r := newRand(3, 7)
	for range 100 {
		p := randomProblem(r)
		f := east(1, 0, 1, 0, 3)
		if !reflect.DeepEqual(calls(p, 0, f, nil), calls(copied(p), 0, f, nil)) {
			t.Fatalf("R7: a second call for %v returns something else", p)
		}
	}
}
