package search

import (
	"iter"
	"slices"

	"boundstone/api"
)

const maxCount = 1 << 62 // the greatest number of solutions that is told

// solutions yields the choices of points from their boxes for which all facts that name them hold, in lexicographic order. A choice is boxes of one point each; the other points keep their boxes. What is yielded is changed by the next one.
func (g *ground) solutions(boxes []api.Box, list []int) iter.Seq[[]api.Box] {
	return func(yield func([]api.Box) bool) {
		chosen := slices.Clone(boxes)
		var choose func(rest []int) bool
		choose = func(rest []int) bool {
			if len(rest) == 0 {
				return yield(chosen)
			}
			point := rest[0]
			for p := range points(boxes[point]) {
				chosen[point] = only(p)
				if !g.stuck(chosen, point) && !choose(rest[1:]) {
					return false
				}
			}
			chosen[point] = boxes[point] // facts about earlier points read it again
			return true
		}
		choose(list)
	}
}

// solution returns a solution with its points in boxes that lie in the narrowed ones, and whether there is one.
func (g *ground) solution(boxes []api.Box) ([]api.Point, bool) {
	l := make([]api.Point, len(boxes))
parts:
	for _, part := range g.parts {
		for chosen := range g.solutions(boxes, part) {
			for _, point := range part {
				l[point] = least(chosen[point])
			}
			continue parts
		}
		return nil, false
	}
	return l, true
}

// clash returns points among which there is a contradiction, and whether there is one: all points if the problem is empty, or else a part.
func (g *ground) clash() ([]int, bool) {
	if g.empty {
		return allPoints(len(g.boxes)), true
	}
parts:
	for _, part := range g.parts {
		for range g.solutions(g.narrow, part) {
			continue parts
		}
		return part, true
	}
	return nil, false
}

// allPoints returns the numbers of n points.
func allPoints(n int) []int {
	l := make([]int, n)
	for i := range l {
		l[i] = i
	}
	return l
}

// Solve returns a solution.
func Solve(p api.Problem) ([]api.Point, api.Errno) {
	g, e := tractable(p)
	if e != api.OK {
		return nil, e
	}
	if g.empty {
		return nil, api.ErrClash
	}
	l, is := g.solution(g.narrow)
	if !is {
		return nil, api.ErrClash
	}
	return l, api.OK
}

// Count returns how many solutions there are.
func Count(p api.Problem) (int, api.Errno) {
	g, e := tractable(p)
	if e != api.OK {
		return 0, e
	}
	if g.empty {
		return 0, api.OK
	}
	var counts []int
	for _, part := range g.parts {
		counts = append(counts, g.count(part))
	}
	return product(counts)
}

// count returns how many solutions a part has.
func (g *ground) count(part []int) int {
	if g.free(part) {
		return size(g.narrow[part[0]])
	}
	n := 0
	for range g.solutions(g.narrow, part) {
		n++
	}
	return n
}

// product returns the product of some counts; ErrRange if it is greater than can be told.
func product(counts []int) (int, api.Errno) {
	if slices.Contains(counts, 0) {
		return 0, api.OK
	}
	n := 1
	for _, c := range counts {
		if n > maxCount/c {
			return 0, api.ErrRange
		}
		n *= c
	}
	return n, api.OK
}

// All returns all solutions, in order.
func All(p api.Problem) ([][]api.Point, api.Errno) {
	g, e := survey(p)
	if e != api.OK {
		return nil, e
	}
	if g.empty {
		return nil, api.ErrClash
	}
	all := allPoints(len(p.Boxes))
	if g.choices(all) > api.MaxVolume {
		return nil, api.ErrLimit
	}
	var l [][]api.Point
	for chosen := range g.solutions(g.narrow, all) {
		l = append(l, leastOf(chosen))
	}
	if len(l) == 0 {
		return nil, api.ErrClash
	}
	return l, api.OK
}

// leastOf returns the least points of boxes.
func leastOf(boxes []api.Box) []api.Point {
	l := make([]api.Point, len(boxes))
	for i, b := range boxes {
		l[i] = least(b)
	}
	return l
}
