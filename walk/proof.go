package walk

import (
	"slices"

	"boundstone/api"
	"boundstone/search"
)

// CheckSide returns OK if it is proved on which side of the bounds a point lies.
func CheckSide(p api.Parish, year int, at api.Point, s api.Settled) api.Errno {
	v, e := viewFrom(p, year, at)
	if e != api.OK {
		return e
	}
	if !v.proved(s) {
		return api.ErrProof
	}
	return api.OK
}

// proved reports whether a side is proved.
func (v view) proved(s api.Settled) bool {
	switch s.Answer {
	case api.Yes, api.No:
		return len(s.Ends) == 0 && v.fitted(s.Tree, s.Answer)
	case api.Open:
		return len(s.Tree) == 0 && v.differ(s.Ends)
	}
	return false
}

// differ reports whether there are two solutions, of which the point does not lie inside of the first one, and not outside of the second one.
func (v view) differ(ends [][]api.Point) bool {
	if len(ends) != 2 {
		return false
	}
	for i, not := range []api.Answer{api.Yes, api.No} {
		if _, is := search.Allows(v.problem, ends[i]); !is || v.lies(v.at, ends[i]) == not {
			return false
		}
	}
	return true
}

// fitted reports whether a tree is one of the side that is the answer.
func (v view) fitted(tree []api.Node, answer api.Answer) bool {
	boxes := slices.Clone(v.problem.Boxes)
	next := 0
	var follow func() bool
	follow = func() bool {
		if next == len(tree) {
			return false
		}
		n := tree[next]
		next++
		if n.Fact != noFact {
			return v.isLeaf(n, boxes, answer)
		}
		return cuts(n, boxes) && inBoth(boxes, n, follow)
	}
	return len(tree) <= api.MaxTree && follow() && next == len(tree)
}

// isLeaf reports whether a node that is no cut is a leaf for boxes.
func (v view) isLeaf(n api.Node, boxes []api.Box, answer api.Answer) bool {
	switch {
	case n != api.Node{Fact: n.Fact}:
		return false
	case n.Fact == around:
		return v.goesAround(boxes, answer)
	}
	return within(api.Span{Hi: len(v.problem.Facts) - 1}, n.Fact) && search.Fails(v.problem.Facts[n.Fact], boxes)
}

// cuts reports whether a node cuts one of some boxes in two.
func cuts(n api.Node, boxes []api.Box) bool {
	if !within(api.Span{Hi: len(boxes) - 1}, n.Point) || !within(api.Span{Hi: 1}, n.Axis) {
		return false
	}
	s := spanOf(boxes[n.Point], n.Axis)
	return within(api.Span{Lo: s.Lo, Hi: s.Hi - 1}, n.At)
}
