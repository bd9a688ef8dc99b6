package walk

import (
	"cmp"
	"iter"
	"slices"

	"boundstone/api"
	"boundstone/plane"
)

const maxPlanned = 1000 // solutions for which further legs are planned

// Readings returns the least and the greatest number of links that a leg can read, for the square of a distance.
func Readings(square, slack int) (api.Span, api.Errno) {
	if !within(api.Span{Hi: api.MaxSquare}, square) || !within(api.Span{Hi: api.MaxSlack}, slack) {
		return api.Span{}, api.ErrArg
	}
	s := readings(square, slack)
	if s.Lo > s.Hi {
		return api.Span{}, api.ErrNone
	}
	return s, api.OK
}

// readings does what Readings does, for valid arguments; Lo is greater than Hi if there is no such number.
func readings(square, slack int) api.Span {
	down := plane.Root(square)
	up := down
	if down*down < square {
		up++
	}
	return api.Span{Lo: max(0, up-slack), Hi: down + slack}
}

// plan is further legs for the side of a point: on which side it lies of the bounds of each solution, and what each leg can read for each solution.
type plan struct {
	sides []api.Answer
	reads [][]api.Span
}

// planFor returns the plan of some further legs; the errors are those of Decides.
func planFor(p api.Parish, year int, at api.Point, l []api.Further) (plan, api.Errno) {
	v, e := viewFrom(p, year, at)
	if e != api.OK {
		return plan{}, e
	}
	solutions, sides, e := v.sides()
	if e != api.OK {
		return plan{}, e
	}
	if e := v.checkFurther(l); e != api.OK {
		return plan{}, e
	}
	if len(solutions) > maxPlanned {
		return plan{}, api.ErrLimit
	}
	x := plan{sides: sides}
	for _, f := range l {
		from, to := v.point(f.From), v.point(f.To)
		var reads []api.Span
		for _, points := range solutions {
			reads = append(reads, readings(plane.Dist(points[from], points[to]), f.Slack))
		}
		x.reads = append(x.reads, reads)
	}
	return x, api.OK
}

// checkFurther returns the first error of further legs.
func (b bounds) checkFurther(l []api.Further) api.Errno {
	if len(l) > api.MaxExtra {
		return api.ErrLimit
	}
	for _, f := range l {
		if f.From == f.To || !within(api.Span{Hi: api.MaxSlack}, f.Slack) || !within(api.Span{Hi: api.MaxCost}, f.Cost) {
			return api.ErrArg
		}
		if b.point(f.From) < 0 || b.point(f.To) < 0 {
			return api.ErrNone
		}
	}
	return api.OK
}

// decides reports whether some of the legs decide the side: there are no two solutions with different sides for which each of these legs can read the same.
func (x plan) decides(legs []int) bool {
	open := false
pairs:
	for i := range x.sides {
		for j := range i {
			if x.sides[i] != x.sides[j] && x.alike(legs, i, j) {
				open = true
				break pairs
			}
		}
	}
	return !open
}

// alike reports whether each one of some legs can read one number for two solutions.
func (x plan) alike(legs []int, i, j int) bool {
	for _, leg := range legs {
		s, t := x.reads[leg][i], x.reads[leg][j]
		if max(s.Lo, t.Lo) > min(s.Hi, t.Hi) {
			return false
		}
	}
	return true
}

// choices yields all choices of some of n legs, as their indices in increasing order.
func choices(n int) iter.Seq[[]int] {
	return func(yield func([]int) bool) {
		for set := range 1 << n {
			var legs []int
			for leg := range n {
				if set>>leg&1 > 0 {
					legs = append(legs, leg)
				}
			}
			if !yield(legs) {
				return
			}
		}
	}
}

// Decides reports whether some further legs decide the side of a point, whatever they read.
func Decides(p api.Parish, year int, at api.Point, l []api.Further) (bool, api.Errno) {
	x, e := planFor(p, year, at, l)
	if e != api.OK {
		return false, e
	}
	return x.decides(x.all()), api.OK
}

// all returns the indices of all legs.
func (x plan) all() []int {
	var legs []int
	for leg := range x.reads {
		legs = append(legs, leg)
	}
	return legs
}

// Cheapest returns the cheapest further legs that decide the side of a point.
func Cheapest(p api.Parish, year int, at api.Point, l []api.Further) ([]int, api.Errno) {
	x, e := planFor(p, year, at, l)
	if e != api.OK {
		return nil, e
	}
	best := x.all()
	if !x.decides(best) {
		return nil, api.ErrNone
	}
	for legs := range choices(len(l)) {
		if compare(l, legs, best) < 0 && x.decides(legs) {
			best = legs
		}
	}
	return best, api.OK
}

// compare compares two choices of further legs: by their costs, then by how many they are, then by their indices.
func compare(l []api.Further, one, two []int) int {
	return cmp.Or(cmp.Compare(cost(l, one), cost(l, two)), cmp.Compare(len(one), len(two)), slices.Compare(one, two))
}

func cost(l []api.Further, legs []int) int {
	sum := 0
	for _, leg := range legs {
		sum += l[leg].Cost
	}
	return sum
}
