package plane

import (
	"cmp"

	"boundstone/api"
)

// Valid reports whether a point has coordinates within their limits.
func Valid(p api.Point) bool { return validCoord(p.X) && validCoord(p.Y) }

func validCoord(n int) bool { return n >= -api.MaxCoord && n <= api.MaxCoord }

// checkPoints returns ErrLimit unless there are from least to most points, then ErrArg unless all of them are valid.
func checkPoints(l []api.Point, least, most int) api.Errno {
	if len(l) < least || len(l) > most {
		return api.ErrLimit
	}
	for _, p := range l {
		if !Valid(p) {
			return api.ErrArg
		}
	}
	return api.OK
}

// Turn returns on which side of the line from a to b the point c lies: 1 left, -1 right, 0 on it.
func Turn(a, b, c api.Point) int {
	if !Valid(a) || !Valid(b) || !Valid(c) {
		return 0
	}
	return cmp.Compare(twiceArea(a, b, c), 0)
}

// twiceArea returns twice the area of the triangle of valid points, which is far from overflowing.
func twiceArea(a, b, c api.Point) int {
	return (b.X-a.X)*(c.Y-a.Y) - (b.Y-a.Y)*(c.X-a.X)
}

// Dist returns the square of the distance of two points.
func Dist(a, b api.Point) int {
	if !Valid(a) || !Valid(b) {
		return -1
	}
	return squares(b.X-a.X, b.Y-a.Y)
}

func squares(x, y int) int { return x*x + y*y }

// Root returns the greatest integer whose square is at most n.
func Root(n int) int {
	root := 0
	for bit := 1 << 31; bit > 0; bit >>= 1 {
		// The square of more is compared by a division, because it can be greater than any int.
		if more := root + bit; more <= n/more {
			root = more
		}
	}
	return root
}
