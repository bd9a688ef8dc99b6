package plane_test

import (
	"cmp"
	"math"
	"math/rand/v2"
	"slices"

	"boundstone/api"
)

const limit = 1 << 20 // the greatest absolute value of a coordinate

func at(x, y int) api.Point { return api.Point{X: x, Y: y} }

// path returns the points with these coordinates: X and Y of the first one, X and Y of the second one, and so on.
func path(coords ...int) []api.Point {
	var l []api.Point
	for i := 0; i < len(coords); i += 2 {
		l = append(l, at(coords[i], coords[i+1]))
	}
	return l
}

func line(aX, aY, bX, bY int) api.Segment { return api.Segment{A: at(aX, aY), B: at(bX, bY)} }

func box(xLo, xHi, yLo, yHi int) api.Box {
	return api.Box{X: api.Span{Lo: xLo, Hi: xHi}, Y: api.Span{Lo: yLo, Hi: yHi}}
}

// wrongNumbers returns numbers that are no coordinates.
func wrongNumbers() []int {
	return []int{limit + 1, -limit - 1, 1 << 21, -1 << 21, 1 << 32, -1 << 32, 1<<32 + 1, 1 << 62, math.MaxInt64, math.MinInt64}
}

// wrongPoints returns points that are not valid.
func wrongPoints() []api.Point {
	var l []api.Point
	for _, n := range wrongNumbers() {
		l = append(l, at(n, 0), at(0, n), at(n, n), at(1, n), at(n, -1))
	}
	return l
}

// wrongBoxes returns boxes that are not proper.
func wrongBoxes() []api.Box {
	l := []api.Box{
		box(1, 0, 0, 0), box(0, 0, 1, 0), box(3, -3, 0, 5), box(0, 5, 3, -3), box(5, 2, 5, 2), box(limit, -limit, 0, 0),
		box(math.MaxInt64, math.MinInt64, 0, 0), box(math.MinInt64, math.MaxInt64, math.MinInt64, math.MaxInt64),
	}
	for _, n := range wrongNumbers() {
		low, high := min(n, 0), max(n, 0)
		l = append(l, box(low, high, 0, 0), box(0, 0, low, high), box(n, n, 0, 0), box(0, 0, n, n))
	}
	return l
}

// grid returns all points whose coordinates are from lo to hi.
func grid(lo, hi int) []api.Point { return pointsOf(box(lo, hi, lo, hi)) }

// pointsOf returns the points of a box, one by one.
func pointsOf(b api.Box) []api.Point {
	var l []api.Point
	for x := b.X.Lo; x <= b.X.Hi; x++ {
		for y := b.Y.Lo; y <= b.Y.Hi; y++ {
			l = append(l, at(x, y))
		}
	}
	return l
}

// lines returns all proper segments between some points, in both directions.
func lines(l []api.Point) []api.Segment {
	var s []api.Segment
	for _, a := range l {
		for _, b := range l {
			if a != b {
				s = append(s, api.Segment{A: a, B: b})
			}
		}
	}
	return s
}

// boxes returns all boxes whose coordinates are from lo to hi.
func boxes(lo, hi int) []api.Box {
	var l []api.Box
	for a := lo; a <= hi; a++ {
		for b := a; b <= hi; b++ {
			for c := lo; c <= hi; c++ {
				for d := c; d <= hi; d++ {
					l = append(l, box(a, b, c, d))
				}
			}
		}
	}
	return l
}

func randomPoint(r *rand.Rand, lo, hi int) api.Point {
	return at(lo+r.IntN(hi-lo+1), lo+r.IntN(hi-lo+1))
}

func randomPoints(r *rand.Rand, n, lo, hi int) []api.Point {
	l := make([]api.Point, n)
	for i := range l {
		l[i] = randomPoint(r, lo, hi)
	}
	return l
}

func randomBox(r *rand.Rand, lo, hi int) api.Box {
	p, q := randomPoint(r, lo, hi), randomPoint(r, lo, hi)
	return box(min(p.X, q.X), max(p.X, q.X), min(p.Y, q.Y), max(p.Y, q.Y))
}

// within returns a box all of whose points are in a box.
func within(r *rand.Rand, b api.Box) api.Box {
	part := func(s api.Span) (int, int) {
		m, n := s.Lo+r.IntN(s.Hi-s.Lo+1), s.Lo+r.IntN(s.Hi-s.Lo+1)
		return min(m, n), max(m, n)
	}
	xLo, xHi := part(b.X)
	yLo, yHi := part(b.Y)
	return box(xLo, xHi, yLo, yHi)
}

func turned[T any](l []T) []T {
	l = slices.Clone(l)
	slices.Reverse(l)
	return l
}

// area returns twice the area of a triangle, as a sum over its corners.
func area(a, b, c api.Point) int { return a.X*(b.Y-c.Y) + b.X*(c.Y-a.Y) + c.X*(a.Y-b.Y) }

func sign(n int) int { return cmp.Compare(n, 0) }

func divisor(m, n int) int {
	for n != 0 {
		m, n = n, m%n
	}
	return max(m, -m)
}

// isOn reports whether a point is one of the points with integer coordinates of a proper segment, by going along it.
func isOn(s api.Segment, p api.Point) bool {
	x, y := s.B.X-s.A.X, s.B.Y-s.A.Y
	steps := divisor(x, y)
	for i := range steps + 1 {
		if p == at(s.A.X+i*(x/steps), s.A.Y+i*(y/steps)) {
			return true
		}
	}
	return false
}

// meeting returns how two proper segments meet, by where along each of them the lines meet.
func meeting(s, t api.Segment) int {
	dX, dY, eX, eY := s.B.X-s.A.X, s.B.Y-s.A.Y, t.B.X-t.A.X, t.B.Y-t.A.Y
	wX, wY := t.A.X-s.A.X, t.A.Y-s.A.Y
	whole, i, k := dX*eY-dY*eX, wX*eY-wY*eX, wX*dY-wY*dX
	if whole < 0 {
		whole, i, k = -whole, -i, -k
	}
	if whole == 0 {
		if k != 0 {
			return api.MtApart
		}
		m, n := wX*dX+wY*dY, (wX+eX)*dX+(wY+eY)*dY
		// Apart is less than 0, and one point is 0: of how much of the line s and t have in common.
		return []int{api.MtApart, api.MtTouch, api.MtOverlap}[1+sign(min(dX*dX+dY*dY, max(m, n))-max(0, min(m, n)))]
	}
	switch {
	case i < 0 || i > whole || k < 0 || k > whole:
		return api.MtApart
	case i == 0 || i == whole || k == 0 || k == whole:
		return api.MtTouch
	}
	return api.MtCross
}

// edges returns the edges of a polygon.
func edges(l []api.Point) []api.Segment {
	var s []api.Segment
	for i := range l {
		s = append(s, api.Segment{A: l[i], B: l[(i+1)%len(l)]})
	}
	return s
}

// isSimple reports whether a polygon is simple, straight from the chapter's words.
func isSimple(l []api.Point) bool {
	all := edges(l)
	for i, s := range all {
		if s.A == s.B {
			return false
		}
		for k := range i {
			neighbours := k == i-1 || k == 0 && i == len(l)-1
			common := all[k].A != all[k].B && meeting(all[k], s) != api.MtApart
			if neighbours && meeting(all[k], s) != api.MtTouch || !neighbours && common {
				return false
			}
		}
	}
	return true
}

// isOnEdge reports whether a point is on an edge of a polygon, or one of its corners.
func isOnEdge(l []api.Point, p api.Point) bool {
	return slices.ContainsFunc(edges(l), func(s api.Segment) bool {
		return s.A == p || s.A != s.B && isOn(s, p)
	})
}

// turnsAround returns how often a polygon goes around a point that is on no edge, by the sum of the angles at which its edges are seen.
func turnsAround(l []api.Point, p api.Point) int {
	sum := 0.0
	for _, s := range edges(l) {
		a, b := at(s.A.X-p.X, s.A.Y-p.Y), at(s.B.X-p.X, s.B.Y-p.Y)
		sum += math.Atan2(float64(a.X*b.Y-a.Y*b.X), float64(a.X*b.X+a.Y*b.Y))
	}
	return int(math.Round(sum / (2 * math.Pi)))
}

// side returns where a point lies of a simple polygon.
func side(l []api.Point, p api.Point) int {
	switch {
	case isOnEdge(l, p):
		return 0
	case turnsAround(l, p) != 0:
		return 1
	}
	return -1
}

// star returns a simple polygon around the origin, walked to the left, if no three neighbours of its corners are too far apart.
func star(r *rand.Rand, n, size int) []api.Point {
	var l []api.Point
	for len(l) < n {
		p := randomPoint(r, -size, size)
		same := slices.ContainsFunc(l, func(q api.Point) bool { return p.X*q.Y == p.Y*q.X && p.X*q.X+p.Y*q.Y >= 0 })
		if p != at(0, 0) && !same {
			l = append(l, p)
		}
	}
	slices.SortFunc(l, func(a, b api.Point) int {
		return cmp.Compare(math.Atan2(float64(a.Y), float64(a.X)), math.Atan2(float64(b.Y), float64(b.X)))
	})
	return l
}

// comb returns a simple polygon with as many corners as one can have, walked to the left: a ground of some length, and teeth on it.
func comb(width, height int) []api.Point {
	l := path(0, 0, 197*width, 0)
	for i := 197; i >= 0; i-- {
		if i%2 == 1 {
			l = append(l, at(i*width, height))
		} else {
			l = append(l, at(i*width, 1))
		}
	}
	return l
}
