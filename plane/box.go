package plane

import (
	"iter"

	"boundstone/api"
)

// Proper reports whether a box has points, and its coordinates are within their limits.
func Proper(b api.Box) bool { return properSpan(b.X) && properSpan(b.Y) }

func properSpan(s api.Span) bool {
	return s.Lo <= s.Hi && validCoord(s.Lo) && validCoord(s.Hi)
}

// Holds reports whether a box is proper, and has a point.
func Holds(b api.Box, p api.Point) bool {
	return Proper(b) && within(b.X, p.X) && within(b.Y, p.Y)
}

func within(s api.Span, n int) bool { return s.Lo <= n && n <= s.Hi }

// Corners returns the corners of a box, turning left from the least one.
func Corners(b api.Box) [4]api.Point {
	if !Proper(b) {
		return [4]api.Point{}
	}
	return [4]api.Point{
		{X: b.X.Lo, Y: b.Y.Lo},
		{X: b.X.Hi, Y: b.Y.Lo},
		{X: b.X.Hi, Y: b.Y.Hi},
		{X: b.X.Lo, Y: b.Y.Hi},
	}
}

// single reports whether a proper box has one point only.
func single(b api.Box) bool {
	corners := Corners(b)
	return corners[0] == corners[2]
}

// points yields the points of a box.
func points(b api.Box) iter.Seq[api.Point] {
	return func(yield func(api.Point) bool) {
		for x := b.X.Lo; x <= b.X.Hi; x++ {
			for y := b.Y.Lo; y <= b.Y.Hi; y++ {
				if !yield(api.Point{X: x, Y: y}) {
					return
				}
			}
		}
	}
}

// Meet returns the points that two boxes have in common, and whether there are any.
func Meet(a, b api.Box) (api.Box, bool) {
	if !Proper(a) || !Proper(b) {
		return api.Box{}, false
	}
	common := api.Box{X: meetSpan(a.X, b.X), Y: meetSpan(a.Y, b.Y)}
	if !Proper(common) {
		return api.Box{}, false
	}
	return common, true
}

func meetSpan(s, t api.Span) api.Span {
	return api.Span{Lo: max(s.Lo, t.Lo), Hi: min(s.Hi, t.Hi)}
}

// Cover returns the least box that has two boxes.
func Cover(a, b api.Box) (api.Box, bool) {
	if !Proper(a) || !Proper(b) {
		return api.Box{}, false
	}
	return api.Box{X: coverSpan(a.X, b.X), Y: coverSpan(a.Y, b.Y)}, true
}

func coverSpan(s, t api.Span) api.Span {
	return api.Span{Lo: min(s.Lo, t.Lo), Hi: max(s.Hi, t.Hi)}
}

// Grow returns the box of all points that are at most so far from one of a box, in each coordinate.
func Grow(b api.Box, by int) (api.Box, bool) {
	if !Proper(b) || by < 0 {
		return api.Box{}, false
	}
	return api.Box{X: growSpan(b.X, by), Y: growSpan(b.Y, by)}, true
}

func growSpan(s api.Span, by int) api.Span {
	by = min(by, 2*api.MaxCoord) // this reaches all valid coordinates, and does not overflow
	return meetSpan(
		api.Span{Lo: s.Lo - by, Hi: s.Hi + by},
		api.Span{Lo: -api.MaxCoord, Hi: api.MaxCoord},
	)
}

// Cut returns the halves of a box.
func Cut(b api.Box) (api.Box, api.Box, bool) {
	if !Proper(b) || single(b) {
		return api.Box{}, api.Box{}, false
	}
	byX := long(b.X) >= long(b.Y)
	low, high := halves(choose(byX, b.X, b.Y))
	lowBox := choose(byX, api.Box{X: low, Y: b.Y}, api.Box{X: b.X, Y: low})
	highBox := choose(byX, api.Box{X: high, Y: b.Y}, api.Box{X: b.X, Y: high})
	return lowBox, highBox, true
}

// choose returns one of two values: the first one, or else the second one.
func choose[T any](first bool, one, two T) T {
	if first {
		return one
	}
	return two
}

func long(s api.Span) int { return s.Hi - s.Lo }

func halves(s api.Span) (api.Span, api.Span) {
	m := (s.Lo + s.Hi) >> 1 // rounds down, also below 0
	return api.Span{Lo: s.Lo, Hi: m}, api.Span{Lo: m + 1, Hi: s.Hi}
}
