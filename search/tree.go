package search

import (
	"slices"

	"boundstone/api"
)

const noFact = -1 // the Fact of a cut

// Refute returns a tree that shows that there is no solution.
func Refute(p api.Problem) ([]api.Node, api.Errno) {
	g, e := tractable(p)
	if e != api.OK {
		return nil, e
	}
	list, is := g.clash()
	if !is {
		return nil, api.ErrNone
	}
	return g.tree(list), api.OK
}

// tree returns a tree that fits the problem, by cuts of the boxes of points among which there is a contradiction. As each cut that can be made by narrowing comes first, and the narrowed boxes of a part have at most MaxVolume choices, each of which is in one leaf, the nodes are not more than MaxTree.
func (g *ground) tree(list []int) []api.Node {
	var tree []api.Node
	boxes := slices.Clone(g.boxes)
	var grow func()
	grow = func() {
		if i, is := g.failing(boxes); is {
			tree = append(tree, api.Node{Fact: i})
			return
		}
		n := g.nextCut(boxes, list)
		tree = append(tree, n)
		whole := boxes[n.Point]
		low, high := cut(whole, n.Axis, n.At)
		boxes[n.Point] = low
		grow()
		boxes[n.Point] = high
		grow()
		boxes[n.Point] = whole
	}
	grow()
	return tree
}

// nextCut returns a cut that takes off a strip on which a fact fails, or, if there is none, one that halves the longest span.
func (g *ground) nextCut(boxes []api.Box, list []int) api.Node {
	for _, point := range list {
		for side := range sides {
			if wide := g.loose(boxes, point, side); wide > 0 {
				return api.Node{Fact: noFact, Point: point, Axis: axisOf(side), At: cutBehind(boxes[point], side, wide)}
			}
		}
	}
	return halving(boxes, list)
}

// halving returns the cut that halves the longest span of some points.
func halving(boxes []api.Box, list []int) api.Node {
	n := api.Node{Fact: noFact}
	longest := 0
	for _, point := range list {
		for axis := range 2 {
			if s := spanOf(boxes[point], axis); long(s) > longest {
				longest = long(s)
				n.Point, n.Axis, n.At = point, axis, (s.Lo+s.Hi)>>1 // rounds down, also below 0
			}
		}
	}
	return n
}

// CheckTree returns OK if a tree shows that there is no solution.
func CheckTree(p api.Problem, tree []api.Node) api.Errno {
	if e := Check(p); e != api.OK {
		return e
	}
	if len(tree) > api.MaxTree {
		return api.ErrLimit
	}
	if !layOut(p).fitted(tree) {
		return api.ErrProof
	}
	return api.OK
}

// fitted reports whether a tree fits the problem.
func (g *ground) fitted(tree []api.Node) bool {
	boxes := slices.Clone(g.boxes)
	next := 0
	var follow func() bool
	follow = func() bool {
		if next == len(tree) {
			return false
		}
		n := tree[next]
		next++
		if n.Fact != noFact {
			return g.isLeaf(n, boxes)
		}
		if !isCut(n, boxes) {
			return false
		}
		whole := boxes[n.Point]
		low, high := cut(whole, n.Axis, n.At)
		boxes[n.Point] = low
		if !follow() {
			return false
		}
		boxes[n.Point] = high
		if !follow() {
			return false
		}
		boxes[n.Point] = whole
		return true
	}
	return follow() && next == len(tree)
}

// isLeaf reports whether a node is a leaf whose fact fails on boxes.
func (g *ground) isLeaf(n api.Node, boxes []api.Box) bool {
	return n == api.Node{Fact: n.Fact} && among(n.Fact, len(g.rules)) && g.rules[n.Fact].fails(boxes)
}

// isCut reports whether a node that is no leaf cuts one of some boxes in two.
func isCut(n api.Node, boxes []api.Box) bool {
	if !among(n.Point, len(boxes)) || n.Axis < 0 || n.Axis > 1 {
		return false
	}
	s := spanOf(boxes[n.Point], n.Axis)
	return n.At >= s.Lo && n.At < s.Hi
}
