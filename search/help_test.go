package search_test

import (
	"math"
	"math/rand/v2"
	"slices"
	"testing"

	"boundstone/api"
	"boundstone/search"
)

const (
	limit  = 1 << 20 // the greatest absolute value of a coordinate
	square = 1 << 44 // the greatest absolute value of an end of a span
	volume = 1 << 16 // the greatest volume of a part
	nodes  = 1 << 18 // the most nodes of a tree
)

func at(x, y int) api.Point { return api.Point{X: x, Y: y} }

// path returns the points with these coordinates: X and Y of the first one, X and Y of the second one, and so on.
func path(coords ...int) []api.Point {
	var l []api.Point
	for i := 0; i < len(coords); i += 2 {
		l = append(l, at(coords[i], coords[i+1]))
	}
	return l
}

func span(lo, hi int) api.Span { return api.Span{Lo: lo, Hi: hi} }

func box(xLo, xHi, yLo, yHi int) api.Box { return api.Box{X: span(xLo, xHi), Y: span(yLo, yHi)} }

func one(p api.Point) api.Box { return box(p.X, p.X, p.Y, p.Y) }

func dist(id, a, b, lo, hi int) api.Fact {
	return api.Fact{ID: id, Kind: api.FaDist, A: a, B: b, Span: span(lo, hi)}
}

func turn(id, a, b, c, lo, hi int) api.Fact {
	return api.Fact{ID: id, Kind: api.FaTurn, A: a, B: b, C: c, Span: span(lo, hi)}
}

func quarter(id, a, b, q int) api.Fact {
	return api.Fact{ID: id, Kind: api.FaQuarter, A: a, B: b, Quarter: q}
}

func near(id, a, b, by int) api.Fact {
	return api.Fact{ID: id, Kind: api.FaNear, A: a, B: b, Span: span(0, by)}
}

func east(id, a, b, lo, hi int) api.Fact {
	return api.Fact{ID: id, Kind: api.FaEast, A: a, B: b, Span: span(lo, hi)}
}

func north(id, a, b, lo, hi int) api.Fact {
	return api.Fact{ID: id, Kind: api.FaNorth, A: a, B: b, Span: span(lo, hi)}
}

func not(f api.Fact) api.Fact {
	f.Not = !f.Not
	return f
}

// always returns a fact of two points that says nothing, but connects them.
func always(id, a, b int) api.Fact { return near(id, a, b, square) }

func problem(boxes []api.Box, facts ...api.Fact) api.Problem {
	return api.Problem{Boxes: boxes, Facts: facts}
}

func copied(p api.Problem) api.Problem {
	return api.Problem{Boxes: slices.Clone(p.Boxes), Facts: slices.Clone(p.Facts)}
}

// plus returns a problem with more facts behind its facts.
func plus(p api.Problem, facts ...api.Fact) api.Problem {
	return problem(p.Boxes, slices.Concat(p.Facts, facts)...)
}

// example returns the problem of the chapter's examples.
func example() api.Problem {
	return problem([]api.Box{box(0, 0, 0, 0), box(-5, 5, -5, 5)}, dist(4, 0, 1, 25, 25), quarter(7, 0, 1, api.East))
}

// hidden returns a contradiction that no narrowing finds: 27 is not the sum of two squares.
func hidden() api.Problem {
	return problem([]api.Box{box(0, 0, 0, 0), box(-5, 5, -5, 5)}, dist(1, 0, 1, 27, 27))
}

// huge returns a problem with solutions that is not tractable: its only part has twice the volume that is allowed.
func huge() api.Problem {
	return problem([]api.Box{box(0, 1023, 0, 127), box(0, 0, 0, 0)}, always(3, 0, 1))
}

// beside returns two problems as one, with no facts between them.
func beside(p, q api.Problem) api.Problem {
	r := copied(p)
	r.Boxes = append(r.Boxes, q.Boxes...)
	for _, f := range q.Facts {
		f.A, f.B = f.A+len(p.Boxes), f.B+len(p.Boxes)
		if f.Kind == api.FaTurn {
			f.C += len(p.Boxes)
		}
		r.Facts = append(r.Facts, f)
	}
	return r
}

// wrongProblems returns problems that Check does not accept, with its errors.
func wrongProblems() map[api.Errno][]api.Problem {
	b := box(0, 1, 0, 1)
	return map[api.Errno][]api.Problem{
		api.ErrLimit: {
			problem(slices.Repeat([]api.Box{b}, 13)),
			problem([]api.Box{b, b}, slices.Repeat([]api.Fact{near(1, 0, 1, 0)}, 61)...),
			problem(slices.Repeat([]api.Box{box(1, 0, 0, 0)}, 13)),
			problem(nil, slices.Repeat([]api.Fact{{}}, 61)...),
		},
		api.ErrArg: {
			problem([]api.Box{b, box(0, 1024, 0, 0)}),
			problem([]api.Box{b, b}, near(1, 0, 1, 0), near(1, 1, 1, 0)),
			problem([]api.Box{box(1, 0, 0, 0), b}, near(1, 0, 1, 0)),
			problem(nil, near(1, 0, 1, 0)),
		},
	}
}

// numbersOf returns the numbers of a span.
func numbersOf(s api.Span) []int {
	var l []int
	for n := s.Lo; n <= s.Hi; n++ {
		l = append(l, n)
	}
	return l
}

// pointsOf returns the points of a box, one by one.
func pointsOf(b api.Box) []api.Point {
	var l []api.Point
	for _, x := range numbersOf(b.X) {
		for _, y := range numbersOf(b.Y) {
			l = append(l, at(x, y))
		}
	}
	return l
}

// choices returns all choices of points from boxes, in lexicographic order.
func choices(boxes []api.Box) [][]api.Point {
	l := [][]api.Point{nil}
	for _, b := range boxes {
		var longer [][]api.Point
		for _, begin := range l {
			for _, p := range pointsOf(b) {
				longer = append(longer, append(slices.Clone(begin), p))
			}
		}
		l = longer
	}
	return l
}

// choicesOf returns all choices of the points that a fact names, as lists that have the least points of the boxes of the others.
func choicesOf(f api.Fact, boxes []api.Box) [][]api.Point {
	l := slices.Clone(boxes)
	for i, b := range l {
		if i != f.A && i != f.B && !(f.Kind == api.FaTurn && i == f.C) {
			l[i] = box(b.X.Lo, b.X.Lo, b.Y.Lo, b.Y.Lo)
		}
	}
	return choices(l)
}

// valueOf returns the value of a fact of the kinds that have one.
func valueOf(f api.Fact, l []api.Point) int {
	x, y := l[f.B].X-l[f.A].X, l[f.B].Y-l[f.A].Y
	switch f.Kind {
	case api.FaDist:
		return x*x + y*y
	case api.FaTurn:
		return x*(l[f.C].Y-l[f.A].Y) - y*(l[f.C].X-l[f.A].X)
	case api.FaEast:
		return x
	}
	return y
}

func hasValue(f api.Fact) bool { return f.Kind != api.FaQuarter && f.Kind != api.FaNear }

// bareHolds reports whether a fact without regard to Not holds for points, as it is written.
func bareHolds(f api.Fact, l []api.Point) bool {
	x, y := l[f.B].X-l[f.A].X, l[f.B].Y-l[f.A].Y
	switch f.Kind {
	case api.FaNear:
		return max(x, -x) <= f.Span.Hi && max(y, -y) <= f.Span.Hi
	case api.FaQuarter:
		switch f.Quarter {
		case api.East:
			return x > 0 && x >= y && x >= -y
		case api.North:
			return y > 0 && y >= x && y >= -x
		case api.West:
			return -x > 0 && -x >= y && -x >= -y
		}
		return -y > 0 && -y >= x && -y >= -x
	}
	n := valueOf(f, l)
	return f.Span.Lo <= n && n <= f.Span.Hi
}

// firstWrong returns the index of the first fact that does not hold for points, or -1.
func firstWrong(p api.Problem, l []api.Point) int {
	return slices.IndexFunc(p.Facts, func(f api.Fact) bool { return bareHolds(f, l) == f.Not })
}

// solutions returns all solutions, by trying all choices.
func solutions(p api.Problem) [][]api.Point {
	var l [][]api.Point
	for _, c := range choices(p.Boxes) {
		if firstWrong(p, c) == -1 {
			l = append(l, c)
		}
	}
	return l
}

// hullOf returns the least boxes in which the points of some solutions lie.
func hullOf(l [][]api.Point) []api.Box {
	var hull []api.Box
	for _, p := range l[0] {
		hull = append(hull, one(p))
	}
	for _, s := range l {
		for i, p := range s {
			hull[i] = box(min(hull[i].X.Lo, p.X), max(hull[i].X.Hi, p.X), min(hull[i].Y.Lo, p.Y), max(hull[i].Y.Hi, p.Y))
		}
	}
	return hull
}

// ends returns pointers to the ends of the spans of a box, in the order of an extent.
func ends(b *api.Box) [4]*int { return [4]*int{&b.X.Lo, &b.X.Hi, &b.Y.Lo, &b.Y.Hi} }

// opposites returns pointers to the other ends.
func opposites(b *api.Box) [4]*int { return [4]*int{&b.X.Hi, &b.X.Lo, &b.Y.Hi, &b.Y.Lo} }

// narrowed returns the narrowed boxes, moving one end by 1 at a time; false if the problem is empty.
func narrowed(p api.Problem) ([]api.Box, bool) {
	boxes := slices.Clone(p.Boxes)
again:
	for i := range boxes {
		for side := range 4 {
			whole := boxes[i]
			*opposites(&boxes[i])[side] = *ends(&whole)[side]
			fails := slices.ContainsFunc(p.Facts, func(f api.Fact) bool { return search.Fails(f, boxes) })
			boxes[i] = whole
			if !fails {
				continue
			}
			if *ends(&whole)[side] == *opposites(&whole)[side] {
				return nil, false
			}
			*ends(&boxes[i])[side] += 1 - 2*(side%2)
			goto again
		}
	}
	return boxes, true
}

// fits reports whether a tree fits a problem, by the words of the chapter: it reads one tree and returns what stands behind it.
func fits(p api.Problem, tree []api.Node) bool {
	rest, is := read(p.Facts, p.Boxes, tree)
	return is && len(rest) == 0
}

func read(facts []api.Fact, boxes []api.Box, tree []api.Node) ([]api.Node, bool) {
	if len(tree) == 0 {
		return nil, false
	}
	n, rest := tree[0], tree[1:]
	if n.Fact != -1 {
		return rest, n.Fact >= 0 && n.Fact < len(facts) && n.Point == 0 && n.Axis == 0 && n.At == 0 && search.Fails(facts[n.Fact], boxes)
	}
	if n.Point < 0 || n.Point >= len(boxes) || n.Axis != 0 && n.Axis != 1 {
		return nil, false
	}
	low, high := slices.Clone(boxes), slices.Clone(boxes)
	lo, hi := &high[n.Point].X, &low[n.Point].X
	if n.Axis == 1 {
		lo, hi = &high[n.Point].Y, &low[n.Point].Y
	}
	if n.At < lo.Lo || n.At >= hi.Hi {
		return nil, false
	}
	lo.Lo, hi.Hi = n.At+1, n.At
	rest, is := read(facts, low, rest)
	if !is {
		return nil, false
	}
	return read(facts, high, rest)
}

// cutBeyond returns the problem in which the box of a point is cut to the numbers beyond a side of a box, and whether there are any.
func cutBeyond(p api.Problem, point int, b api.Box, side int) (api.Problem, bool) {
	q := copied(p)
	c := &q.Boxes[point]
	if side%2 == 0 {
		*opposites(c)[side] = *ends(&b)[side] - 1
	} else {
		*opposites(c)[side] = *ends(&b)[side] + 1
	}
	return q, c.X.Lo <= c.X.Hi && c.Y.Lo <= c.Y.Hi
}

// wrongExtent returns what is wrong with an extent, by the words of the chapter.
func wrongExtent(p api.Problem, point int, x api.Extent) string {
	for side := range 4 {
		l := x.Ends[side]
		if len(l) != len(p.Boxes) || firstWrong(p, l) != -1 {
			return "an end is no solution"
		}
		for i, q := range l {
			if b := p.Boxes[i]; q.X < b.X.Lo || q.X > b.X.Hi || q.Y < b.Y.Lo || q.Y > b.Y.Hi {
				return "an end is not in the boxes"
			}
		}
		c := one(l[point])
		if *ends(&c)[side] != *ends(&x.Box)[side] {
			return "an end does not attain its side"
		}
		q, is := cutBeyond(p, point, x.Box, side)
		if !is && len(x.Trees[side]) > 0 {
			return "a tree is for nothing"
		}
		if is && (len(x.Trees[side]) > nodes || !fits(q, x.Trees[side])) {
			return "a tree does not fit"
		}
	}
	return ""
}

func newRand(a, b uint64) *rand.Rand { return rand.New(rand.NewPCG(a, b)) }

func randomSpan(r *rand.Rand, lo, hi, most int) api.Span {
	n := lo + r.IntN(hi-lo+1)
	return span(n, min(hi, n+r.IntN(most)))
}

func randomBox(r *rand.Rand, most int) api.Box {
	return api.Box{X: randomSpan(r, -4, 4, most), Y: randomSpan(r, -4, 4, most)}
}

// randomFact returns a fact that is formed for at least two points; one about three only if there are as many.
func randomFact(r *rand.Rand, n int) api.Fact {
	names := r.Perm(n)
	kind := 1 + r.IntN(6)
	for n < 3 && kind == api.FaTurn {
		kind = 1 + r.IntN(6)
	}
	f := api.Fact{ID: r.IntN(5), Kind: kind, A: names[0], B: names[1], Not: r.IntN(4) == 0}
	switch kind {
	case api.FaDist:
		f.Span = randomSpan(r, 0, 60, 30)
	case api.FaTurn:
		f.C = names[2]
		f.Span = randomSpan(r, -40, 40, 40)
	case api.FaQuarter:
		f.Quarter = r.IntN(4)
	case api.FaNear:
		f.Span.Hi = r.IntN(6)
	default:
		f.Span = randomSpan(r, -6, 6, 8)
	}
	return f
}

// randomProblem returns a problem with at most 4 points, whose choices can all be tried.
func randomProblem(r *rand.Rand) api.Problem {
	n := 1 + r.IntN(4)
	most := []int{8, 5, 4, 3}[n-1]
	var p api.Problem
	for range n {
		p.Boxes = append(p.Boxes, randomBox(r, most))
	}
	for range r.IntN(6) {
		if n > 1 {
			p.Facts = append(p.Facts, randomFact(r, n))
		}
	}
	return p
}

// within returns a box all of whose points are in a box.
func within(r *rand.Rand, b api.Box) api.Box {
	part := func(s api.Span) api.Span {
		m, n := s.Lo+r.IntN(s.Hi-s.Lo+1), s.Lo+r.IntN(s.Hi-s.Lo+1)
		return span(min(m, n), max(m, n))
	}
	return api.Box{X: part(b.X), Y: part(b.Y)}
}

// inside reports whether all points of a box are in another one.
func inside(a, b api.Box) bool {
	return b.X.Lo <= a.X.Lo && a.X.Hi <= b.X.Hi && b.Y.Lo <= a.Y.Lo && a.Y.Hi <= b.Y.Hi
}

// wrongNumbers returns numbers that are no coordinates.
func wrongNumbers() []int {
	return []int{limit + 1, -limit - 1, 1 << 21, 1 << 32, -1 << 32, 1<<32 + 1, 1 << 62, math.MaxInt64, math.MinInt64}
}

// wrongBoxes returns boxes that are not valid.
func wrongBoxes() []api.Box {
	l := []api.Box{
		box(1, 0, 0, 0), box(0, 0, 1, 0), box(3, -3, 0, 5), box(0, 5, 3, -3), box(limit, -limit, 0, 0),
		box(math.MaxInt64, math.MinInt64, 0, 0), box(math.MinInt64, math.MaxInt64, math.MinInt64, math.MaxInt64),
	}
	for _, n := range wrongNumbers() {
		l = append(l, box(min(n, 0), max(n, 0), 0, 0), box(0, 0, min(n, 0), max(n, 0)), box(n, n, 0, 0), box(0, 0, n, n))
	}
	return l
}

// wrongFacts returns facts that are not formed for three points.
func wrongFacts() []api.Fact {
	l := []api.Fact{
		{}, near(-1, 0, 1, 0), near(1<<40+1, 0, 1, 0), near(math.MinInt64, 0, 1, 0),
		near(1, -1, 1, 0), near(1, 1, -1, 0), near(1, 3, 1, 0), near(1, 1, 3, 0), near(1, 1, 1, 0), near(1, math.MaxInt64, 0, 0), near(1, 0, math.MinInt64, 0),
		turn(1, 0, 1, 0, 0, 0), turn(1, 0, 1, 1, 0, 0), turn(1, 2, 1, -1, 0, 0), turn(1, 0, 1, 3, 0, 0), turn(1, 1, 1, 2, 0, 0), turn(1, 0, 3, 1, 0, 0), turn(1, 3, 0, 1, 0, 0), turn(1, 0, 1, math.MinInt64, 0, 0),
		near(1, 0, 1, -1), near(1, 0, 1, square+1),
		{ID: 1, Kind: api.FaNear, A: 0, B: 1, Span: span(1, 2)}, {ID: 1, Kind: api.FaNear, A: 0, B: 1, Span: span(-1, 2)}, {ID: 1, Kind: api.FaNear, A: 0, B: 1, Span: span(2, 2)},
		quarter(1, 0, 1, -1), quarter(1, 0, 1, 4), quarter(1, 0, 1, math.MaxInt64),
		{ID: 1, Kind: api.FaQuarter, A: 0, B: 1, Span: span(0, 1)}, {ID: 1, Kind: api.FaQuarter, A: 0, B: 1, Span: span(-1, 0)}, {ID: 1, Kind: api.FaQuarter, A: 0, B: 1, Span: span(1, 1)},
	}
	for _, f := range []api.Fact{dist(1, 0, 1, 0, 9), turn(1, 0, 1, 2, 0, 9), near(1, 0, 1, 9), east(1, 0, 1, 0, 9), north(1, 0, 1, 0, 9)} {
		for _, q := range []int{-1, 1, 3, 4} {
			g := f
			g.Quarter = q
			l = append(l, g)
		}
	}
	for _, f := range []api.Fact{dist(1, 0, 1, 0, 9), quarter(1, 0, 1, api.West), near(1, 0, 1, 9), east(1, 0, 1, 0, 9), north(1, 0, 1, 0, 9)} {
		for _, c := range []int{-1, 1, 2, 3} {
			g := f
			g.C = c
			l = append(l, g)
		}
		for _, kind := range []int{-1, 0, 7, 8, math.MaxInt64} {
			g := f
			g.Kind = kind
			l = append(l, g)
		}
	}
	for _, f := range []api.Fact{dist(1, 0, 1, 0, 9), turn(1, 0, 1, 2, 0, 9), east(1, 0, 1, 0, 9), north(1, 0, 1, 0, 9)} {
		for _, s := range []api.Span{span(1, 0), span(-square-1, 0), span(0, square+1), span(math.MinInt64, 0), span(0, math.MaxInt64), span(math.MaxInt64, math.MinInt64)} {
			g := f
			g.Span = s
			l = append(l, g)
		}
	}
	return l
}

// rightFacts returns facts that are formed for three points, at the limits.
func rightFacts() []api.Fact {
	return []api.Fact{
		near(0, 0, 1, 0), near(1<<40, 2, 0, 0), near(1, 0, 2, square), near(1, 1, 0, 0),
		dist(1, 0, 1, 0, 0), dist(1, 1, 2, -square, square), dist(1, 2, 1, square, square), dist(1, 0, 1, -square, -square),
		east(1, 0, 1, -square, -square), east(1, 2, 0, square, square), north(1, 0, 1, -square, square), north(1, 2, 1, 5, 5),
		turn(1, 0, 1, 2, -square, square), turn(1, 2, 1, 0, 0, 0), turn(1, 1, 2, 0, square, square), turn(0, 1, 0, 2, -3, -2),
		quarter(1, 0, 1, api.East), quarter(1, 1, 0, api.North), quarter(1, 2, 0, api.West), quarter(1, 0, 2, api.South),
	}
}

func errorIs(t *testing.T, promise string, got, want api.Errno) {
	t.Helper()
	if got != want {
		t.Errorf("%s: the error is %d, not %d", promise, got, want)
	}
}
