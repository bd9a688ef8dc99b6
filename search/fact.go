package search

import "boundstone/api"

// rule is a fact that is made ready to be read on boxes, of each kind in the same way: the bare fact holds for points exactly if its value lies in right.
type rule struct {
	not    bool
	right  api.Span
	values func(l []api.Box) api.Span // the least and the greatest value on boxes
}

// ruleOf returns the rule of a fact that is formed.
func ruleOf(f api.Fact) rule {
	n := named{a: f.A, b: f.B, c: f.C, quarter: f.Quarter}
	r := rule{not: f.Not, right: f.Span}
	switch f.Kind {
	case api.FaDist:
		r.values = n.dist
	case api.FaTurn:
		r.values = n.turn
	case api.FaNear:
		r.values = n.near
	case api.FaEast:
		r.values = n.east
	case api.FaNorth:
		r.values = n.north
	case api.FaQuarter:
		r.values = n.ahead
		r.right = api.Span{Lo: 0, Hi: api.MaxSquare}
	}
	return r
}

// can reports whether the bare fact can hold on boxes.
func (r rule) can(l []api.Box) bool {
	v := r.values(l)
	return v.Lo <= r.right.Hi && r.right.Lo <= v.Hi
}

// must reports whether the bare fact must hold on boxes.
func (r rule) must(l []api.Box) bool {
	v := r.values(l)
	return r.right.Lo <= v.Lo && v.Hi <= r.right.Hi
}

func (r rule) fails(l []api.Box) bool {
	if r.not {
		return r.must(l)
	}
	return !r.can(l)
}

// named is the points that a fact names, and the quarter.
type named struct{ a, b, c, quarter int }

// east returns how far the second point is farther east than the first one.
func (n named) east(l []api.Box) api.Span { return minus(l[n.b].X, l[n.a].X) }

// north returns how far the second point is farther north than the first one.
func (n named) north(l []api.Box) api.Span { return minus(l[n.b].Y, l[n.a].Y) }

// dist returns the square of the distance.
func (n named) dist(l []api.Box) api.Span {
	x, y := absolute(n.east(l)), absolute(n.north(l))
	return api.Span{Lo: x.Lo*x.Lo + y.Lo*y.Lo, Hi: x.Hi*x.Hi + y.Hi*y.Hi}
}

// near returns the greater one of the absolute values of both coordinates of the vector.
func (n named) near(l []api.Box) api.Span {
	return greater(absolute(n.east(l)), absolute(n.north(l)))
}

// ahead returns by how much the vector goes farther in the quarter's direction than it must to lie in the quarter: that is as far as it goes aside, and at least 1.
func (n named) ahead(l []api.Box) api.Span {
	along, aside := n.east(l), n.north(l)
	if n.quarter == api.North || n.quarter == api.South {
		along, aside = aside, along
	}
	if n.quarter == api.West || n.quarter == api.South {
		along = minus(api.Span{}, along)
	}
	return minus(along, greater(absolute(aside), api.Span{Lo: 1, Hi: 1}))
}

// turn returns twice the area of the triangle. It is linear in each single coordinate, so that corners attain both ends.
func (n named) turn(l []api.Box) api.Span {
	ones, twos := cornersOf(l[n.a]), cornersOf(l[n.b])
	s := turnTo(ones.points[0], twos.points[0], l[n.c])
	for _, p := range ones.points[:ones.count] {
		for _, q := range twos.points[:twos.count] {
			s = coverSpan(s, turnTo(p, q, l[n.c]))
		}
	}
	return s
}

// turnTo returns twice the area of the triangles of two points and one of a box.
func turnTo(p, q api.Point, b api.Box) api.Span {
	x := api.Span{Lo: b.X.Lo - p.X, Hi: b.X.Hi - p.X}
	y := api.Span{Lo: b.Y.Lo - p.Y, Hi: b.Y.Hi - p.Y}
	return minus(times(q.X-p.X, y), times(q.Y-p.Y, x))
}

// minus returns the least and the greatest difference of numbers of two spans.
func minus(s, t api.Span) api.Span { return api.Span{Lo: s.Lo - t.Hi, Hi: s.Hi - t.Lo} }

// times returns the least and the greatest multiple of numbers of a span.
func times(n int, s api.Span) api.Span {
	return api.Span{Lo: min(n*s.Lo, n*s.Hi), Hi: max(n*s.Lo, n*s.Hi)}
}

// absolute returns the least and the greatest absolute value of numbers of a span.
func absolute(s api.Span) api.Span {
	return api.Span{Lo: max(0, s.Lo, -s.Hi), Hi: max(s.Hi, -s.Lo)}
}

// greater returns the least and the greatest of the greater numbers of two spans.
func greater(s, t api.Span) api.Span {
	return api.Span{Lo: max(s.Lo, t.Lo), Hi: max(s.Hi, t.Hi)}
}

// Holds reports whether a fact holds for points.
func Holds(f api.Fact, l []api.Point) bool {
	boxes := make([]api.Box, len(l))
	for i, p := range l {
		boxes[i] = only(p)
	}
	return readable(f, boxes) && !ruleOf(f).fails(boxes)
}

// Can reports whether a fact can hold on boxes.
func Can(f api.Fact, l []api.Box) bool { return readable(f, l) && ruleOf(f).can(l) }

// Must reports whether a fact must hold on boxes.
func Must(f api.Fact, l []api.Box) bool { return readable(f, l) && ruleOf(f).must(l) }

// Fails reports whether a fact of a problem fails on boxes.
func Fails(f api.Fact, l []api.Box) bool { return readable(f, l) && ruleOf(f).fails(l) }

// readable reports whether a fact is formed for as many points as there are boxes, and all of these are valid.
func readable(f api.Fact, l []api.Box) bool {
	for _, b := range l {
		if !valid(b) {
			return false
		}
	}
	return formed(f, len(l))
}

// Allows reports whether points are a solution, and returns the index of the first fact that does not hold.
func Allows(p api.Problem, l []api.Point) (int, bool) {
	if Check(p) != api.OK || !inBoxes(p.Boxes, l) {
		return -1, false
	}
	for i, f := range p.Facts {
		if !Holds(f, l) {
			return i, false
		}
	}
	return -1, true
}

// inBoxes reports whether there are as many points as boxes, and each one lies in its box.
func inBoxes(boxes []api.Box, l []api.Point) bool {
	if len(l) != len(boxes) {
		return false
	}
	for i, p := range l {
		if !has(boxes[i], p) {
			return false
		}
	}
	return true
}
