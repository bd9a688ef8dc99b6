package search

import (
	"slices"

	"boundstone/api"
)

// hull returns, for the points of a part, the least boxes in which they lie in all solutions, at their places among all boxes; false if there is no solution.
func (g *ground) hull(part []int) ([]api.Box, bool) {
	if g.free(part) {
		return g.narrow, true
	}
	var hull []api.Box
	for chosen := range g.solutions(g.narrow, part) {
		if hull == nil {
			hull = slices.Clone(chosen)
		}
		for _, point := range part {
			hull[point] = cover(hull[point], chosen[point])
		}
	}
	return hull, hull != nil
}

// hulls returns the least boxes in which all points lie in all solutions; ErrClash if there is no solution.
func (g *ground) hulls() ([]api.Box, api.Errno) {
	if g.empty {
		return nil, api.ErrClash
	}
	l := make([]api.Box, len(g.boxes))
	for _, part := range g.parts {
		hull, is := g.hull(part)
		if !is {
			return nil, api.ErrClash
		}
		for _, point := range part {
			l[point] = hull[point]
		}
	}
	return l, api.OK
}

// Hull returns the least boxes in which all points lie in all solutions.
func Hull(p api.Problem) ([]api.Box, api.Errno) {
	g, e := tractable(p)
	if e != api.OK {
		return nil, e
	}
	return g.hulls()
}

// Extent returns where a point lies in all solutions, with proofs.
func Extent(p api.Problem, point int) (api.Extent, api.Errno) {
	if e := Check(p); e != api.OK {
		return api.Extent{}, e
	}
	if !among(point, len(p.Boxes)) {
		return api.Extent{}, api.ErrArg
	}
	g, e := tractable(p)
	if e != api.OK {
		return api.Extent{}, e
	}
	hulls, e := g.hulls()
	if e != api.OK {
		return api.Extent{}, e
	}
	x := api.Extent{Box: hulls[point]}
	for side := range sides {
		x.Ends[side] = g.attained(point, x.Box, side)
		x.Trees[side] = treeBeyond(p, point, x.Box, side)
	}
	return x, api.OK
}

// attained returns a solution in which a point is at a side of its hull.
func (g *ground) attained(point int, hull api.Box, side int) []api.Point {
	boxes := slices.Clone(g.narrow)
	boxes[point], _ = strip(hull, side, 1)
	l, _ := g.solution(boxes)
	return l
}

// treeBeyond returns a tree which shows that a point does not lie beyond a side of its hull.
func treeBeyond(p api.Problem, point int, hull api.Box, side int) []api.Node {
	q, is := problemBeyond(p, point, edge(hull, side), side)
	if !is {
		return nil
	}
	tree, _ := Refute(q)
	return tree
}

// problemBeyond returns a problem in which a point's box is cut to what lies beyond a number on a side, and whether there is any of it.
func problemBeyond(p api.Problem, point, number, side int) (api.Problem, bool) {
	b, is := beyond(p.Boxes[point], side, number)
	if !is {
		return api.Problem{}, false
	}
	q := api.Problem{Boxes: slices.Clone(p.Boxes), Facts: p.Facts}
	q.Boxes[point] = b
	return q, true
}

// CheckExtent returns OK if an extent is proved.
func CheckExtent(p api.Problem, point int, x api.Extent) api.Errno {
	if e := Check(p); e != api.OK {
		return e
	}
	if !among(point, len(p.Boxes)) {
		return api.ErrArg
	}
	if !valid(x.Box) {
		return api.ErrProof
	}
	for side := range sides {
		if !isAttained(p, point, x, side) || !isLast(p, point, x, side) {
			return api.ErrProof
		}
	}
	return api.OK
}

// isAttained reports whether the end of an extent at a side is a solution that attains it.
func isAttained(p api.Problem, point int, x api.Extent, side int) bool {
	_, is := Allows(p, x.Ends[side])
	return is && coord(x.Ends[side][point], side) == edge(x.Box, side)
}

// isLast reports whether the tree of an extent at a side, which is attained, shows that there is nothing beyond it.
func isLast(p api.Problem, point int, x api.Extent, side int) bool {
	q, is := problemBeyond(p, point, edge(x.Box, side), side)
	if !is {
		return len(x.Trees[side]) == 0
	}
	return CheckTree(q, x.Trees[side]) == api.OK
}
