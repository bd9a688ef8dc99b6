package plane

import (
	"cmp"
	"slices"

	"boundstone/api"
)

// Hull returns the corners of the convex hull of points, turning left from the least one.
func Hull(l []api.Point) ([]api.Point, api.Errno) {
	if e := checkPoints(l, 1, api.MaxRing); e != api.OK {
		return nil, e
	}
	sorted := slices.Clone(l)
	slices.SortFunc(sorted, func(a, b api.Point) int {
		return cmp.Or(cmp.Compare(a.X, b.X), cmp.Compare(a.Y, b.Y))
	})
	sorted = slices.Compact(sorted)
	if len(sorted) == 1 {
		return sorted, api.OK
	}
	below := leftTurns(sorted)
	slices.Reverse(sorted)
	above := leftTurns(sorted)
	return append(withoutLast(below), withoutLast(above)...), api.OK
}

// leftTurns returns the corners of a way that always turns left, from the first to the last one of sorted points, and has all of them on it or on its left.
func leftTurns(sorted []api.Point) []api.Point {
	var way []api.Point
	for _, p := range sorted {
		for len(way) > 1 && Turn(way[len(way)-2], way[len(way)-1], p) <= 0 {
			way = withoutLast(way)
		}
		way = append(way, p)
	}
	return way
}

func withoutLast(l []api.Point) []api.Point { return l[:len(l)-1] }

// Around returns the indices of points in the order in which they are seen from a point, turning left from the east.
func Around(o api.Point, l []api.Point) ([]int, api.Errno) {
	if e := checkPoints(l, 0, api.MaxRing); e != api.OK {
		return nil, e
	}
	if !Valid(o) || slices.Contains(l, o) {
		return nil, api.ErrArg
	}
	order := make([]int, len(l))
	for i := range order {
		order[i] = i
	}
	slices.SortFunc(order, func(i, j int) int {
		return cmp.Or(
			cmp.Compare(halfTurns(o, l[i]), halfTurns(o, l[j])),
			-Turn(o, l[i], l[j]),
			cmp.Compare(Dist(o, l[i]), Dist(o, l[j])),
			cmp.Compare(i, j),
		)
	})
	return order, api.OK
}

// halfTurns returns how many whole half turns to the left lead from the east to the direction of p, seen from o. Of two points with the same number the signs of turns tell the order.
func halfTurns(o, p api.Point) int {
	if p.Y > o.Y || p.Y == o.Y && p.X > o.X {
		return 0
	}
	return 1
}
