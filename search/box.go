package search

import (
	"iter"

	"boundstone/api"
)

// The sides of a box are numbered in the order of an extent: least X, greatest X, least Y, greatest Y.
const sides = 4

// axisOf returns the direction of a side, as a node names it.
func axisOf(side int) int { return side / 2 }

// isHigh reports whether a side is at the greater end of its span.
func isHigh(side int) bool { return side%2 == 1 }

func valid(b api.Box) bool { return validSpan(b.X) && validSpan(b.Y) }

func validSpan(s api.Span) bool {
	return s.Lo <= s.Hi && s.Lo >= -api.MaxCoord && s.Hi <= api.MaxCoord
}

func small(b api.Box) bool { return long(b.X) <= api.MaxSide && long(b.Y) <= api.MaxSide }

// long returns how many numbers a span has.
func long(s api.Span) int { return s.Hi - s.Lo + 1 }

// size returns how many points a box has.
func size(b api.Box) int { return long(b.X) * long(b.Y) }

// only returns the box of one point.
func only(p api.Point) api.Box {
	return api.Box{X: api.Span{Lo: p.X, Hi: p.X}, Y: api.Span{Lo: p.Y, Hi: p.Y}}
}

// least returns the least point of a box.
func least(b api.Box) api.Point { return api.Point{X: b.X.Lo, Y: b.Y.Lo} }

func has(b api.Box, p api.Point) bool { return within(b.X, p.X) && within(b.Y, p.Y) }

func within(s api.Span, n int) bool { return s.Lo <= n && n <= s.Hi }

// spanOf returns the span of a box in a direction.
func spanOf(b api.Box, axis int) api.Span {
	if axis == 0 {
		return b.X
	}
	return b.Y
}

// withSpan returns a box with another span in a direction.
func withSpan(b api.Box, axis int, s api.Span) api.Box {
	if axis == 0 {
		b.X = s
	} else {
		b.Y = s
	}
	return b
}

// cut returns the points of a box up to a number, and those above it.
func cut(b api.Box, axis, at int) (api.Box, api.Box) {
	s := spanOf(b, axis)
	low, high := api.Span{Lo: s.Lo, Hi: at}, api.Span{Lo: at + 1, Hi: s.Hi}
	return withSpan(b, axis, low), withSpan(b, axis, high)
}

// edge returns the number of a box that a side is at.
func edge(b api.Box, side int) int {
	s := spanOf(b, axisOf(side))
	if isHigh(side) {
		return s.Hi
	}
	return s.Lo
}

// coord returns the coordinate of a point in the direction of a side.
func coord(p api.Point, side int) int { return edge(only(p), side) }

// cutBehind returns where a box is cut if so many numbers at a side come off.
func cutBehind(b api.Box, side, wide int) int {
	if isHigh(side) {
		return edge(b, side) - wide
	}
	return edge(b, side) + wide - 1
}

// strip returns the points of a box in so many numbers at a side, and what it is without them.
func strip(b api.Box, side, wide int) (off, rest api.Box) {
	low, high := cut(b, axisOf(side), cutBehind(b, side, wide))
	if isHigh(side) {
		return high, low
	}
	return low, high
}

// beyond returns the points of a box that lie beyond a number on a side, and whether there are any.
func beyond(b api.Box, side, number int) (api.Box, bool) {
	s := spanOf(b, axisOf(side))
	if isHigh(side) {
		s.Lo = max(s.Lo, number+1)
	} else {
		s.Hi = min(s.Hi, number-1)
	}
	return withSpan(b, axisOf(side), s), s.Lo <= s.Hi
}

// corners keeps the corners of a box; for a box of one point the first one stands for all of them.
type corners struct {
	points [4]api.Point
	count  int
}

func cornersOf(b api.Box) corners {
	c := corners{count: 4, points: [4]api.Point{
		{X: b.X.Lo, Y: b.Y.Lo},
		{X: b.X.Hi, Y: b.Y.Lo},
		{X: b.X.Hi, Y: b.Y.Hi},
		{X: b.X.Lo, Y: b.Y.Hi},
	}}
	if c.points[0] == c.points[2] {
		c.count = 1
	}
	return c
}

// points yields the points of a box in lexicographic order.
func points(b api.Box) iter.Seq[api.Point] {
	return func(yield func(api.Point) bool) {
		for x := b.X.Lo; x <= b.X.Hi; x++ {
			for y := b.Y.Lo; y <= b.Y.Hi; y++ {
				if !yield(api.Point{X: x, Y: y}) {
					return
				}
			}
		}
	}
}

// cover returns the least box that has two boxes.
func cover(a, b api.Box) api.Box {
	return api.Box{X: coverSpan(a.X, b.X), Y: coverSpan(a.Y, b.Y)}
}

func coverSpan(s, t api.Span) api.Span {
	return api.Span{Lo: min(s.Lo, t.Lo), Hi: max(s.Hi, t.Hi)}
}
