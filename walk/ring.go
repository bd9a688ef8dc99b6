package walk

import (
	"iter"
	"slices"

	"boundstone/api"
	"boundstone/plane"
)

// Round returns how often a ring of boxes goes around a point, if that is the same for all choices, by the chapter's test.
func Round(l []api.Box, at api.Point) (int, bool) {
	improper := func(b api.Box) bool { return !plane.Proper(b) }
	if len(l) < 3 || len(l) > api.MaxStones || slices.ContainsFunc(l, improper) || !plane.Valid(at) {
		return 0, false
	}
	sum := 0
	for a, b := range edges(l) {
		n, clear := count(a, b, at)
		if !clear {
			return 0, false
		}
		sum += n
	}
	return sum, true
}

// edges yields each element of a ring with the next one.
func edges[T any](ring []T) iter.Seq2[T, T] {
	return func(yield func(T, T) bool) {
		for i, a := range ring {
			if !yield(a, ring[(i+1)%len(ring)]) {
				return
			}
		}
	}
}

// count returns the count of an edge from a box to another one, and whether it is clear of a point.
func count(a, b api.Box, at api.Point) (int, bool) {
	signs := plane.Turns(a, b, only(at))
	if signs&api.SiZero != 0 && !apart(a, b, at) {
		return 0, false
	}
	switch {
	case a.X.Hi < at.X && b.X.Hi < at.X:
		return 0, true
	case !isLow(a, at) && !isHigh(a, at), !isLow(b, at) && !isHigh(b, at):
		return 0, false
	case isLow(a, at) && isHigh(b, at) && signs == api.SiMore:
		return 1, true
	case isHigh(a, at) && isLow(b, at) && signs == api.SiLess:
		return -1, true
	}
	return 0, true
}

// apart reports whether both boxes lie to the west of a point, to the east, to the south or to the north.
func apart(a, b api.Box, at api.Point) bool {
	return a.X.Hi < at.X && b.X.Hi < at.X || a.X.Lo > at.X && b.X.Lo > at.X ||
		a.Y.Hi < at.Y && b.Y.Hi < at.Y || a.Y.Lo > at.Y && b.Y.Lo > at.Y
}

func isLow(b api.Box, at api.Point) bool { return b.Y.Hi <= at.Y }

func isHigh(b api.Box, at api.Point) bool { return b.Y.Lo > at.Y }

// only returns the box of one point.
func only(p api.Point) api.Box {
	return api.Box{X: api.Span{Lo: p.X, Hi: p.X}, Y: api.Span{Lo: p.Y, Hi: p.Y}}
}
