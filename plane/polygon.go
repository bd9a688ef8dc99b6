package plane

import (
	"iter"

	"boundstone/api"
)

// checkPolygon returns ErrLimit or ErrArg unless points are the corners of a polygon.
func checkPolygon(l []api.Point) api.Errno { return checkPoints(l, 3, api.MaxRing) }

// edges yields the edges of a polygon, each with the index of the corner that it leads from.
func edges(l []api.Point) iter.Seq2[int, api.Segment] {
	return func(yield func(int, api.Segment) bool) {
		for i, a := range l {
			if !yield(i, api.Segment{A: a, B: l[(i+1)%len(l)]}) {
				return
			}
		}
	}
}

// Area returns twice the area of a polygon, negative if it is walked clockwise.
func Area(l []api.Point) (int, api.Errno) {
	if e := checkPolygon(l); e != api.OK {
		return 0, e
	}
	area := 0
	for _, s := range edges(l) {
		area += s.A.X*s.B.Y - s.B.X*s.A.Y
	}
	return area, api.OK
}

// Simple reports whether a polygon meets itself nowhere.
func Simple(l []api.Point) (bool, api.Errno) {
	if e := checkPolygon(l); e != api.OK {
		return false, e
	}
	return simple(l), api.OK
}

func simple(l []api.Point) bool {
	for i, s := range edges(l) {
		for j, t := range edges(l) {
			if j > i && Meeting(s, t) != simpleMeeting(j-i, len(l)) {
				return false
			}
		}
	}
	return true
}

// simpleMeeting returns how an edge of a simple polygon with n corners meets the one that comes so many places behind it. An edge whose ends are equal does not meet its neighbours so: it is no proper segment.
func simpleMeeting(behind, n int) int {
	if behind == 1 || behind == n-1 {
		return api.MtTouch
	}
	return api.MtApart
}

// Winding returns how often a polygon goes around a point.
func Winding(l []api.Point, p api.Point) (int, api.Errno) {
	if e := checkPolygon(l); e != api.OK {
		return 0, e
	}
	if !Valid(p) {
		return 0, api.ErrArg
	}
	if onEdge(l, p) {
		return 0, api.ErrState
	}
	return winding(l, p), api.OK
}

// onEdge reports whether a point lies on an edge of a polygon, or is one of the corners, which all edges can consist of alone.
func onEdge(l []api.Point, p api.Point) bool {
	for _, s := range edges(l) {
		if s.A == p || On(s, p) {
			return true
		}
	}
	return false
}

// winding returns how often a polygon goes around a point that lies on no edge.
func winding(l []api.Point, p api.Point) int {
	n := 0
	for _, s := range edges(l) {
		switch turn := Turn(s.A, s.B, p); {
		case s.A.Y <= p.Y && s.B.Y > p.Y && turn > 0:
			n++
		case s.A.Y > p.Y && s.B.Y <= p.Y && turn < 0:
			n--
		}
	}
	return n
}

// Where returns whether a point lies in a simple polygon (1), on it (0), or outside (-1).
func Where(l []api.Point, p api.Point) (int, api.Errno) {
	if e := checkPolygon(l); e != api.OK {
		return 0, e
	}
	if !Valid(p) {
		return 0, api.ErrArg
	}
	if !simple(l) {
		return 0, api.ErrState
	}
	return where(l, p), api.OK
}

func where(l []api.Point, p api.Point) int {
	switch {
	case onEdge(l, p):
		return 0
	case winding(l, p) != 0:
		return 1
	}
	return -1
}
