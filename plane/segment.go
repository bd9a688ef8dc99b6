package plane

import "boundstone/api"

func properSegment(s api.Segment) bool {
	return Valid(s.A) && Valid(s.B) && s.A != s.B
}

// On reports whether a segment is proper, and has a point.
func On(s api.Segment, p api.Point) bool {
	return properSegment(s) && Holds(boxOf(s), p) && Turn(s.A, s.B, p) == 0
}

// boxOf returns the least box that has both ends of a segment.
func boxOf(s api.Segment) api.Box {
	return api.Box{X: spanOf(s.A.X, s.B.X), Y: spanOf(s.A.Y, s.B.Y)}
}

func spanOf(m, n int) api.Span { return api.Span{Lo: min(m, n), Hi: max(m, n)} }

// Meeting returns how two segments meet.
func Meeting(s, t api.Segment) int {
	if !properSegment(s) || !properSegment(t) {
		return api.MtApart
	}
	sA, sB := Turn(t.A, t.B, s.A), Turn(t.A, t.B, s.B)
	tA, tB := Turn(s.A, s.B, t.A), Turn(s.A, s.B, t.B)
	switch {
	case sA == 0 && sB == 0:
		return meetingAlong(s, t)
	case sA*sB < 0 && tA*tB < 0:
		return api.MtCross
	case On(s, t.A) || On(s, t.B) || On(t, s.A) || On(t, s.B):
		return api.MtTouch
	}
	return api.MtApart
}

// meetingAlong returns how two proper segments of one line meet: what they have in common is as long as what their boxes have.
func meetingAlong(s, t api.Segment) int {
	common, meet := Meet(boxOf(s), boxOf(t))
	switch {
	case !meet:
		return api.MtApart
	case single(common):
		return api.MtTouch
	}
	return api.MtOverlap
}
