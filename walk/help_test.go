package walk_test

import (
	"math"
	"math/rand/v2"
	"reflect"
	"slices"
	"testing"

	"boundstone/api"
	"boundstone/chainage"
	"boundstone/plane"
	"boundstone/search"
	"boundstone/stone"
)

const (
	limit    = 1 << 20 // the greatest absolute value of a coordinate
	square   = 1 << 44 // the greatest absolute value of an end of a span
	nodes    = 1 << 18 // the most nodes of a tree
	lastYear = 4000
	greatID  = 1 << 40
)

func at(x, y int) api.Point { return api.Point{X: x, Y: y} }

func span(lo, hi int) api.Span { return api.Span{Lo: lo, Hi: hi} }

func box(xlo, xhi, ylo, yhi int) api.Box { return api.Box{X: span(xlo, xhi), Y: span(ylo, yhi)} }

func one(p api.Point) api.Box { return box(p.X, p.X, p.Y, p.Y) }

// path returns the points with these coordinates: X and Y of the first one, X and Y of the second one, and so on.
func path(coords ...int) []api.Point {
	var l []api.Point
	for i := 0; i < len(coords); i += 2 {
		l = append(l, at(coords[i], coords[i+1]))
	}
	return l
}

// rod returns a chain that never stretches: each link of it is one of the standard bar.
func rod(id, year int) api.Chain { return api.Chain{ID: id, Year: year, Made: span(10000, 10000)} }

// sight returns a sight of a stone of which only the place is known.
func sight(id, year int, b api.Box) api.Sight {
	return api.Sight{ID: id, Year: year, At: b, Letters: "A", Height: span(0, 100)}
}

// marked returns a stone that can be moved and replaced, with its sights.
func marked(number, step, place int, sights ...api.Sight) api.Marked {
	return api.Marked{Number: number, Life: api.Life{Habit: api.Habit{Step: step, Place: place}, Sights: sights}}
}

// standing returns a stone that was seen in 1700 and in 1720, each time in the same box.
func standing(number int, b api.Box) api.Marked {
	return marked(number, 0, 0, sight(1, 1700, b), sight(2, 1720, b))
}

// leg returns a leg that was measured with the chain 1.
func leg(from, to, quarter, year, links, slack int) api.Leg {
	return api.Leg{From: from, To: to, Quarter: quarter, Measure: api.Measure{Chain: 1, Year: year, Chains: links / 100, Links: links % 100, Slack: slack}}
}

func offset(a, b, c int, left bool) api.Offset { return api.Offset{A: a, B: b, C: c, Left: left} }

func further(from, to, slack, cost int) api.Further {
	return api.Further{From: from, To: to, Slack: slack, Cost: cost}
}

// parish returns a parish with a rod of 1700, a ring of all stones if there are at least three, and walks.
func parish(stones []api.Marked, walks ...api.Walk) api.Parish {
	p := api.Parish{Works: api.Works{Chains: []api.Chain{rod(1, 1700)}}, Stones: stones, Walks: walks}
	for _, s := range stones {
		if len(stones) >= 3 {
			p.Ring = append(p.Ring, s.Number)
		}
	}
	return p
}

// example returns the parish of the chapter's examples.
func example() api.Parish {
	l := []api.Marked{
		standing(1, box(0, 0, 0, 0)),
		standing(2, box(300, 300, 0, 0)),
		marked(3, 5, 0, sight(1, 1700, box(0, 4, 395, 405)), sight(2, 1720, box(0, 4, 395, 405))),
	}
	return parish(l, api.Walk{ID: 9, Year: 1710, Legs: []api.Leg{leg(1, 3, api.North, 1710, 400, 0)}})
}

// clashing returns a parish with a stone whose life is impossible if it was not changed.
func clashing() api.Parish {
	p := example()
	p.Stones = append(p.Stones, marked(4, 5, 5, sight(1, 1702, box(0, 0, 0, 0)), sight(2, 1708, box(1, 1, 0, 0))))
	return p
}

func dist(id, a, b, lo, hi int) api.Fact {
	return api.Fact{ID: id, Kind: api.FaDist, A: a, B: b, Span: span(lo, hi)}
}

func quarter(id, a, b, q int) api.Fact {
	return api.Fact{ID: id, Kind: api.FaQuarter, A: a, B: b, Quarter: q}
}

func turn(id, a, b, c int, left bool) api.Fact {
	f := api.Fact{ID: id, Kind: api.FaTurn, A: a, B: b, C: c, Span: span(-square, -1)}
	if left {
		f.Span = span(1, square)
	}
	return f
}

func near(a, b, by int) api.Fact {
	return api.Fact{Kind: api.FaNear, A: a, B: b, Span: span(0, by)}
}

// copied returns a parish that shares no memory with another one, and has the same nil lists.
func copied(p api.Parish) api.Parish {
	p.Works = api.Works{Chains: slices.Clone(p.Works.Chains), Proofs: slices.Clone(p.Works.Proofs), Repairs: slices.Clone(p.Works.Repairs)}
	p.Ring = slices.Clone(p.Ring)
	p.Stones = slices.Clone(p.Stones)
	for i, s := range p.Stones {
		p.Stones[i].Life.Sights = slices.Clone(s.Life.Sights)
		p.Stones[i].Life.Notes = slices.Clone(s.Life.Notes)
	}
	p.Walks = slices.Clone(p.Walks)
	for i, w := range p.Walks {
		p.Walks[i].Legs = slices.Clone(w.Legs)
		p.Walks[i].Offsets = slices.Clone(w.Offsets)
	}
	return p
}

// plain returns a parish in which each empty list is nil.
func plain(p api.Parish) api.Parish {
	p = copied(p)
	nilIfEmpty(&p.Works.Chains)
	nilIfEmpty(&p.Works.Proofs)
	nilIfEmpty(&p.Works.Repairs)
	nilIfEmpty(&p.Stones)
	for i := range p.Stones {
		nilIfEmpty(&p.Stones[i].Life.Sights)
		nilIfEmpty(&p.Stones[i].Life.Notes)
	}
	nilIfEmpty(&p.Ring)
	nilIfEmpty(&p.Walks)
	for i := range p.Walks {
		nilIfEmpty(&p.Walks[i].Legs)
		nilIfEmpty(&p.Walks[i].Offsets)
	}
	return p
}

func nilIfEmpty[T any](l *[]T) {
	if len(*l) == 0 {
		*l = nil
	}
}

func sameParish(a, b api.Parish) bool { return reflect.DeepEqual(plain(a), plain(b)) }

func sameProblem(a, b api.Problem) bool {
	return slices.Equal(a.Boxes, b.Boxes) && slices.Equal(a.Facts, b.Facts)
}

// isNothing reports whether a result is a zero value, or a list of nothing.
func isNothing(x any) bool {
	v := reflect.ValueOf(x)
	return !v.IsValid() || v.IsZero() || v.Kind() == reflect.Slice && v.Len() == 0
}

// wantError checks the error of a call, whose results come first, and that there is nothing beside an error.
func wantError(t *testing.T, what string, want api.Errno, results ...any) {
	t.Helper()
	last := len(results) - 1
	if results[last] != want {
		t.Errorf("%s: the error is %v, not %d", what, results[last], want)
	}
	for _, x := range results[:last] {
		if want != api.OK && !isNothing(x) {
			t.Errorf("R4: %s: together with the error %v there is %v", what, results[last], x)
		}
	}
}

// all returns the results of a call as a list.
func all(results ...any) []any { return results }

// choices returns all choices of points from boxes.
func choices(boxes []api.Box) [][]api.Point {
	l := [][]api.Point{nil}
	for _, b := range boxes {
		var longer [][]api.Point
		for _, begin := range l {
			for x := b.X.Lo; x <= b.X.Hi; x++ {
				for y := b.Y.Lo; y <= b.Y.Hi; y++ {
					longer = append(longer, append(slices.Clone(begin), at(x, y)))
				}
			}
		}
		l = longer
	}
	return l
}

// volume returns how many choices of points from boxes there are.
func volume(boxes []api.Box) int {
	n := 1
	for _, b := range boxes {
		n *= (b.X.Hi - b.X.Lo + 1) * (b.Y.Hi - b.Y.Lo + 1)
	}
	return n
}

// slowFacts returns the facts of a walk, by the words of the chapter.
func slowFacts(p api.Parish, w api.Walk, index func(number int) int) []api.Fact {
	var l []api.Fact
	for _, g := range w.Legs {
		s, _ := chainage.Distance(p.Works, g.Measure)
		lo, hi := min(s.Lo, 4194304), min(s.Hi, 4194304)
		l = append(l, dist(w.ID, index(g.From), index(g.To), lo*lo, hi*hi))
		if g.Quarter != -1 {
			l = append(l, quarter(w.ID, index(g.From), index(g.To), g.Quarter))
		}
	}
	for _, o := range w.Offsets {
		l = append(l, turn(w.ID, index(o.A), index(o.B), index(o.C), o.Left))
	}
	return l
}

// slowPlaces returns the places of some years, and their boxes, of a parish that has no error then.
func slowPlaces(p api.Parish, years []int) ([]api.Stood, []api.Box) {
	var places []api.Stood
	var boxes []api.Box
	for _, year := range years {
		for _, s := range p.Stones {
			if b, e := stone.In(s.Life, year, p.Changes); e == api.OK {
				places, boxes = append(places, api.Stood{Number: s.Number, Year: year}), append(boxes, b)
			}
		}
	}
	return places, boxes
}

// slowReach returns the reach of a stone, by the words of the chapter.
func slowReach(p api.Parish, s api.Marked, from, to int) int {
	stays := true
	kinds, _ := stone.Kinds(s.Life)
	for k, sum := range kinds {
		begins, ends := s.Life.Sights[k].Year, s.Life.Sights[k+1].Year
		if begins < to && ends > from {
			stays = stays && sum == 1
		}
	}
	if p.Changes == 0 || stays {
		return 0
	}
	return p.Changes * max(s.Life.Habit.Step, s.Life.Habit.Place)
}

// slowJoint returns the problem of some years, of a parish that has no error then.
func slowJoint(p api.Parish, years []int) api.Problem {
	places, boxes := slowPlaces(p, years)
	q := api.Problem{Boxes: boxes}
	for _, year := range years {
		for _, w := range p.Walks {
			if w.Year == year {
				q.Facts = append(q.Facts, slowFacts(p, w, func(number int) int {
					return slices.Index(places, api.Stood{Number: number, Year: year})
				})...)
			}
		}
	}
	for i, place := range places {
		last := -1
		for j, other := range places[:i] {
			if other.Number == place.Number {
				last = j
			}
		}
		if last >= 0 {
			s := p.Stones[slices.IndexFunc(p.Stones, func(s api.Marked) bool { return s.Number == place.Number })]
			q.Facts = append(q.Facts, near(last, i, slowReach(p, s, places[last].Year, place.Year)))
		}
	}
	return q
}

// ringOf returns the points of the problem of a year that are those of the ring.
func ringOf(p api.Parish, year int) []int {
	places, _ := slowPlaces(p, []int{year})
	var ring []int
	for _, number := range p.Ring {
		ring = append(ring, slices.Index(places, api.Stood{Number: number, Year: year}))
	}
	return ring
}

func along[T any](ring []int, l []T) []T {
	var corners []T
	for _, i := range ring {
		corners = append(corners, l[i])
	}
	return corners
}

// isOn reports whether a point lies between two others, or is one of them.
func isOn(a, b, p api.Point) bool {
	turn := (b.X-a.X)*(p.Y-a.Y) - (b.Y-a.Y)*(p.X-a.X)
	return turn == 0 && min(a.X, b.X) <= p.X && p.X <= max(a.X, b.X) && min(a.Y, b.Y) <= p.Y && p.Y <= max(a.Y, b.Y)
}

// turnsAround returns how often a polygon goes around a point, by the angles of its edges; false if the point lies on an edge.
func turnsAround(l []api.Point, p api.Point) (int, bool) {
	sum := 0.0
	for i, a := range l {
		b := l[(i+1)%len(l)]
		if isOn(a, b, p) {
			return 0, false
		}
		x, y, u, v := a.X-p.X, a.Y-p.Y, b.X-p.X, b.Y-p.Y
		sum += math.Atan2(float64(x*v-y*u), float64(x*u+y*v))
	}
	return int(math.Round(sum / (2 * math.Pi))), true
}

// lies returns Yes if a point lies inside of bounds, No if outside, and Open if on an edge.
func lies(l []api.Point, p api.Point) api.Answer {
	n, is := turnsAround(l, p)
	switch {
	case !is:
		return api.Open
	case n != 0:
		return api.Yes
	}
	return api.No
}

// slowSide returns the side of a point, by all solutions.
func slowSide(solutions [][]api.Point, ring []int, p api.Point) api.Answer {
	answer := lies(along(ring, solutions[0]), p)
	for _, l := range solutions {
		if lies(along(ring, l), p) != answer {
			return api.Open
		}
	}
	return answer
}

// slowRound returns how often a ring of boxes goes around a point, by the words of the chapter; the boxes are proper.
func slowRound(l []api.Box, p api.Point) (int, bool) {
	sum := 0
	for i, a := range l {
		b := l[(i+1)%len(l)]
		s, _ := plane.Spread(a, b, one(p))
		west := a.X.Hi < p.X && b.X.Hi < p.X
		east := a.X.Lo > p.X && b.X.Lo > p.X
		south := a.Y.Hi < p.Y && b.Y.Hi < p.Y
		north := a.Y.Lo > p.Y && b.Y.Lo > p.Y
		if !(west || east || south || north || s.Lo > 0 || s.Hi < 0) {
			return 0, false
		}
		if west {
			continue
		}
		lowA, lowB, highA, highB := a.Y.Hi <= p.Y, b.Y.Hi <= p.Y, a.Y.Lo > p.Y, b.Y.Lo > p.Y
		switch {
		case !(lowA || highA) || !(lowB || highB):
			return 0, false
		case lowA && highB && s.Lo > 0:
			sum++
		case highA && lowB && s.Hi < 0:
			sum--
		}
	}
	return sum, true
}

// fitsSide reports whether a tree is one of a side, by the words of the chapter.
func fitsSide(p api.Problem, ring []int, point api.Point, answer api.Answer, tree []api.Node) bool {
	rest, is := readTree(p, ring, point, answer, p.Boxes, tree)
	return is && len(rest) == 0 && len(tree) <= nodes
}

// readTree reads one tree, and returns what stands behind it.
func readTree(p api.Problem, ring []int, point api.Point, answer api.Answer, boxes []api.Box, tree []api.Node) ([]api.Node, bool) {
	if len(tree) == 0 {
		return nil, false
	}
	n, rest := tree[0], tree[1:]
	if n.Fact != -1 && (n.Point != 0 || n.Axis != 0 || n.At != 0) {
		return nil, false
	}
	if n.Fact == -2 {
		sum, is := slowRound(along(ring, boxes), point)
		return rest, is && (sum != 0) == (answer == api.Yes)
	}
	if n.Fact != -1 {
		return rest, n.Fact >= 0 && n.Fact < len(p.Facts) && search.Fails(p.Facts[n.Fact], boxes)
	}
	if n.Point < 0 || n.Point >= len(boxes) || n.Axis != 0 && n.Axis != 1 {
		return nil, false
	}
	low, high := slices.Clone(boxes), slices.Clone(boxes)
	s, u := &low[n.Point].X, &high[n.Point].X
	if n.Axis == 1 {
		s, u = &low[n.Point].Y, &high[n.Point].Y
	}
	if n.At < s.Lo || n.At >= s.Hi {
		return nil, false
	}
	s.Hi, u.Lo = n.At, n.At+1
	rest, is := readTree(p, ring, point, answer, low, rest)
	if !is {
		return nil, false
	}
	return readTree(p, ring, point, answer, high, rest)
}

// canRead reports whether a leg can read a number for the square of a distance, by squares.
func canRead(m, square, slack int) bool {
	least, most := m-slack, m+slack
	return (least < 0 || least*least <= square) && most*most >= square
}

// readable returns all numbers that a leg can read, up to a number that is greater than all of them.
func readable(square, slack, most int) []int {
	var l []int
	for m := range most {
		if canRead(m, square, slack) {
			l = append(l, m)
		}
	}
	return l
}

func newRand(a, b uint64) *rand.Rand { return rand.New(rand.NewPCG(a, b)) }
