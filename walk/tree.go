package walk

import (
	"slices"
	"sort"

	"boundstone/api"
	"boundstone/search"
)

// What the Fact of a node can be beside the index of a fact that fails.
const (
	noFact = -1 // of a cut
	around = -2 // of a leaf where the ring goes around the point as it should
)

// tree returns a tree of the side that is the answer for all solutions. As each cut that takes off points for which a fact fails comes first, and the narrowed boxes have at most MaxVolume choices, each of which is in one leaf, the nodes are not more than MaxTree.
func (v view) tree(answer api.Answer) []api.Node {
	var tree []api.Node
	boxes := slices.Clone(v.problem.Boxes)
	var grow func() bool
	grow = func() bool {
		if leaf, is := v.leaf(boxes, answer); is {
			tree = append(tree, leaf)
			return true
		}
		n := v.nextCut(boxes)
		tree = append(tree, n)
		return inBoth(boxes, n, grow)
	}
	grow()
	return tree
}

// inBoth does something with boxes of which one is cut: first with what is up to the cut, then with what is above it; as long as it goes on.
func inBoth(boxes []api.Box, n api.Node, do func() bool) bool {
	whole := boxes[n.Point]
	low, high := cut(whole, n.Axis, n.At)
	for _, part := range []api.Box{low, high} {
		boxes[n.Point] = part
		if !do() {
			return false
		}
	}
	boxes[n.Point] = whole
	return true
}

// cut returns the points of a box up to a number in a direction, and those above it.
func cut(b api.Box, axis, at int) (low, high api.Box) {
	low, high = b, b
	if axis == 0 {
		low.X.Hi, high.X.Lo = at, at+1
	} else {
		low.Y.Hi, high.Y.Lo = at, at+1
	}
	return low, high
}

func spanOf(b api.Box, axis int) api.Span {
	if axis == 0 {
		return b.X
	}
	return b.Y
}

// leaf returns a leaf for boxes, and whether there is one.
func (v view) leaf(boxes []api.Box, answer api.Answer) (api.Node, bool) {
	for i, f := range v.problem.Facts {
		if search.Fails(f, boxes) {
			return api.Node{Fact: i}, true
		}
	}
	return api.Node{Fact: around}, v.goesAround(boxes, answer)
}

// goesAround reports whether the ring of boxes goes around the point as it does if the answer is right.
func (v view) goesAround(boxes []api.Box, answer api.Answer) bool {
	n, is := Round(along(v.ring, boxes), v.at)
	return is && (n != 0) == (answer == api.Yes)
}

// nextCut returns a cut that takes off points for which a fact fails, or, if there is none, one that halves a span.
func (v view) nextCut(boxes []api.Box) api.Node {
	for point := range boxes {
		for axis := range 2 {
			for _, high := range []bool{false, true} {
				if n, is := v.strip(boxes, point, axis, high); is {
					return n
				}
			}
		}
	}
	return v.halving(boxes)
}

// strip returns the cut that takes as many numbers as possible, in all of which a fact fails, off an end of a span; and whether there are any.
func (v view) strip(boxes []api.Box, point, axis int, high bool) (api.Node, bool) {
	whole := boxes[point]
	s := spanOf(whole, axis)
	cutBehind := func(wide int) int {
		if high {
			return s.Hi - wide
		}
		return s.Lo + wide - 1
	}
	stays := func(wide int) bool {
		off, other := cut(whole, axis, cutBehind(wide))
		if high {
			off = other
		}
		boxes[point] = off
		return !v.stuck(boxes, point)
	}
	wide := 0
	if long(s) > 1 && !stays(1) {
		wide = sort.Search(long(s)-1, func(n int) bool { return stays(n + 1) })
	}
	boxes[point] = whole
	return api.Node{Fact: noFact, Point: point, Axis: axis, At: cutBehind(wide)}, wide > 0
}

// stuck reports whether a fact that names a point fails on boxes.
func (v view) stuck(boxes []api.Box, point int) bool {
	return slices.ContainsFunc(v.problem.Facts, func(f api.Fact) bool {
		named := f.A == point || f.B == point || f.Kind == api.FaTurn && f.C == point
		return named && search.Fails(f, boxes)
	})
}

// halving returns the cut that halves the longest span of the boxes whose edges are not clear of the point; of all boxes if these have one point each.
func (v view) halving(boxes []api.Box) api.Node {
	var unclear, all []int
	for a, b := range edges(v.ring) {
		if _, clear := count(boxes[a], boxes[b], v.at); !clear {
			unclear = append(unclear, a, b)
		}
	}
	for point := range boxes {
		all = append(all, point)
	}
	n, is := longest(boxes, unclear)
	if !is {
		n, _ = longest(boxes, all)
	}
	return n
}

// longest returns the cut that halves the longest span of the boxes of some points, and whether it has more than one number.
func longest(boxes []api.Box, points []int) (api.Node, bool) {
	n, most := api.Node{Fact: noFact}, 1
	for _, point := range points {
		for axis := range 2 {
			if s := spanOf(boxes[point], axis); long(s) > most {
				most = long(s)
				n.Point, n.Axis, n.At = point, axis, (s.Lo+s.Hi)>>1 // rounds down, also below 0
			}
		}
	}
	return n, most > 1
}
