package plane

import "boundstone/api"

// Spread returns the least and the greatest twice area of triangles with a corner in each of three boxes.
func Spread(a, b, c api.Box) (api.Span, bool) {
	if !Proper(a) || !Proper(b) || !Proper(c) {
		return api.Span{}, false
	}
	// Twice the area is linear in each single coordinate, so that corners attain both ends.
	ones, twos, threes := Corners(a), Corners(b), Corners(c)
	first := twiceArea(ones[0], twos[0], threes[0])
	s := api.Span{Lo: first, Hi: first}
	for _, p := range ones {
		for _, q := range twos {
			for _, r := range threes {
				n := twiceArea(p, q, r)
				s = coverSpan(s, api.Span{Lo: n, Hi: n})
			}
		}
	}
	return s, true
}

// Turns returns the signs of the areas that Spread spans.
func Turns(a, b, c api.Box) api.Signs {
	s, is := Spread(a, b, c)
	if !is {
		return 0
	}
	var signs api.Signs
	if s.Lo < 0 {
		signs |= api.SiLess
	}
	if within(s, 0) {
		signs |= api.SiZero
	}
	if s.Hi > 0 {
		signs |= api.SiMore
	}
	return signs
}

// Dists returns the least and the greatest square of the distance of points of two boxes.
func Dists(a, b api.Box) (api.Span, bool) {
	if !Proper(a) || !Proper(b) {
		return api.Span{}, false
	}
	x, y := apart(a.X, b.X), apart(a.Y, b.Y)
	return api.Span{Lo: squares(x.Lo, y.Lo), Hi: squares(x.Hi, y.Hi)}, true
}

// apart returns by how much numbers of two spans differ at least and at most.
func apart(s, t api.Span) api.Span {
	above, below := t.Hi-s.Lo, s.Hi-t.Lo
	return api.Span{Lo: max(0, -above, -below), Hi: max(above, below)}
}

// Sides returns where points of a box lie of a simple polygon: signs as those of Where.
func Sides(l []api.Point, b api.Box) (api.Signs, api.Errno) {
	if e := checkPolygon(l); e != api.OK {
		return 0, e
	}
	if !Proper(b) {
		return 0, api.ErrArg
	}
	if (long(b.X)+1)*(long(b.Y)+1) > api.MaxGrid {
		return 0, api.ErrLimit
	}
	if !simple(l) {
		return 0, api.ErrState
	}
	var signs api.Signs
	for p := range points(b) {
		signs |= sideSign(where(l, p))
	}
	return signs, api.OK
}

func sideSign(side int) api.Signs {
	switch {
	case side < 0:
		return api.SiLess
	case side == 0:
		return api.SiZero
	}
	return api.SiMore
}
