package walk

import (
	"slices"

	"boundstone/api"
	"boundstone/plane"
	"boundstone/search"
)

// bounds is the problem of a year, which point of it a stone has (-1 if it is not present), and the points of the ring.
type bounds struct {
	problem api.Problem
	point   func(number int) int
	ring    []int
}

// boundsIn returns the bounds in a year; the errors are those of Problem, then ErrNone if there are no bounds then.
func boundsIn(p api.Parish, year int) (bounds, api.Errno) {
	q, s, e := joint(p, []int{year})
	if e != api.OK {
		return bounds{}, e
	}
	if len(p.Ring) == 0 {
		return bounds{}, api.ErrNone
	}
	b := bounds{problem: q, point: func(number int) int { return s.point(number, year) }}
	for _, number := range p.Ring {
		point := b.point(number)
		if point < 0 {
			return bounds{}, api.ErrNone
		}
		b.ring = append(b.ring, point)
	}
	return b, api.OK
}

// along returns what belongs to the points of a ring, in its order.
func along[T any](ring []int, l []T) []T {
	var corners []T
	for _, point := range ring {
		corners = append(corners, l[point])
	}
	return corners
}

// lies returns Yes if a point lies inside of the bounds of a solution, No if outside, and Open if on an edge.
func (b bounds) lies(at api.Point, solution []api.Point) api.Answer {
	n, e := plane.Winding(along(b.ring, solution), at)
	switch {
	case e != api.OK:
		return api.Open
	case n != 0:
		return api.Yes
	}
	return api.No
}

// view is bounds as they are seen from a point.
type view struct {
	bounds
	at api.Point
}

// viewFrom returns the view of the bounds in a year; the errors are those of boundsIn, then ErrArg if the point is not valid.
func viewFrom(p api.Parish, year int, at api.Point) (view, api.Errno) {
	b, e := boundsIn(p, year)
	if e != api.OK {
		return view{}, e
	}
	if !plane.Valid(at) {
		return view{}, api.ErrArg
	}
	return view{bounds: b, at: at}, api.OK
}

// sides returns all solutions, and on which side of the bounds of each one the point lies; the errors are those of search.All.
func (v view) sides() ([][]api.Point, []api.Answer, api.Errno) {
	solutions, e := search.All(v.problem)
	if e != api.OK {
		return nil, nil, e
	}
	var sides []api.Answer
	for _, l := range solutions {
		sides = append(sides, v.lies(v.at, l))
	}
	return solutions, sides, api.OK
}

// Side returns on which side of the bounds a point lies in a year, with a proof.
func Side(p api.Parish, year int, at api.Point) (api.Settled, api.Errno) {
	v, e := viewFrom(p, year, at)
	if e != api.OK {
		return api.Settled{}, e
	}
	solutions, sides, e := v.sides()
	if e != api.OK {
		return api.Settled{}, e
	}
	if answer := sides[0]; answer != api.Open && isEach(sides, answer) {
		return api.Settled{Answer: answer, Tree: v.tree(answer)}, api.OK
	}
	return api.Settled{Answer: api.Open, Ends: differing(solutions, sides)}, api.OK
}

// isEach reports whether all sides are one and the same.
func isEach(sides []api.Answer, answer api.Answer) bool {
	return !slices.ContainsFunc(sides, func(side api.Answer) bool { return side != answer })
}

// differing returns a solution of which the point does not lie inside, and one of which it does not lie outside, for a side that is open: different ones, unless there is only one.
func differing(solutions [][]api.Point, sides []api.Answer) [][]api.Point {
	one, two := slices.Index(sides, api.No), slices.Index(sides, api.Yes)
	if one < 0 {
		one = slices.Index(sides, api.Open)
	}
	if two < 0 {
		two = lastIndex(sides, api.Open)
	}
	return [][]api.Point{slices.Clone(solutions[one]), slices.Clone(solutions[two])}
}

// lastIndex returns the last index of something in a list that has it.
func lastIndex[T comparable](l []T, x T) int {
	i := len(l) - 1
	for l[i] != x {
		i--
	}
	return i
}

// Area returns the least and the greatest twice area of the bounds in a year.
func Area(p api.Parish, year int) (api.Span, api.Errno) {
	b, e := boundsIn(p, year)
	if e != api.OK {
		return api.Span{}, e
	}
	solutions, e := search.All(b.problem)
	if e != api.OK {
		return api.Span{}, e
	}
	var areas []int
	for _, l := range solutions {
		area, _ := plane.Area(along(b.ring, l))
		areas = append(areas, max(area, -area))
	}
	return api.Span{Lo: slices.Min(areas), Hi: slices.Max(areas)}, api.OK
}
