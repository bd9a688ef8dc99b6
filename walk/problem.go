package walk

import (
	"iter"
	"slices"

	"boundstone/api"
	"boundstone/search"
)

// Problem returns the problem of a year.
func Problem(p api.Parish, year int) (api.Problem, api.Errno) {
	return Joint(p, []int{year})
}

// Joint returns the problem of some years together.
func Joint(p api.Parish, years []int) (api.Problem, api.Errno) {
	q, _, e := joint(p, years)
	return q, e
}

// joint returns the problem of some years, and whose points it has; the errors are those of Joint.
func joint(p api.Parish, years []int) (api.Problem, standing, api.Errno) {
	if e := Check(p); e != api.OK {
		return api.Problem{}, standing{}, e
	}
	s, e := stands(p, years)
	if e != api.OK {
		return api.Problem{}, standing{}, e
	}
	told, e := s.told(p, years)
	if e != api.OK {
		return api.Problem{}, standing{}, e
	}
	near, e := s.reaches(p)
	if e != api.OK {
		return api.Problem{}, standing{}, e
	}
	if slices.ContainsFunc(s.boxes, large) {
		return api.Problem{}, standing{}, api.ErrRange
	}
	facts := append(told, near...)
	if len(facts) > api.MaxFacts {
		return api.Problem{}, standing{}, api.ErrLimit
	}
	return api.Problem{Boxes: s.boxes, Facts: facts}, s, api.OK
}

// large reports whether a box has more coordinates in a direction than one of a problem may have.
func large(b api.Box) bool { return long(b.X) > api.MaxSide || long(b.Y) > api.MaxSide }

// told returns what the walks of some years say; ErrNone if one of them names a stone that is not present.
func (s standing) told(p api.Parish, years []int) ([]api.Fact, api.Errno) {
	var facts []api.Fact
	for _, year := range years {
		point := func(number int) int { return s.point(number, year) }
		for w := range walksOf(p, year) {
			for number := range numbers(w) {
				if point(number) < 0 {
					return nil, api.ErrNone
				}
			}
			facts = append(facts, account{works: p.Works, walk: w, point: point}.facts()...)
		}
	}
	return facts, api.OK
}

// walksOf yields the walks of a year.
func walksOf(p api.Parish, year int) iter.Seq[api.Walk] {
	return func(yield func(api.Walk) bool) {
		for _, w := range p.Walks {
			if w.Year == year && !yield(w) {
				return
			}
		}
	}
}

// reaches returns how far each stone can stand from where it stood in the last one of the years before.
func (s standing) reaches(p api.Parish) ([]api.Fact, api.Errno) {
	var facts []api.Fact
	for i, place := range s.places {
		last, is := s.before(i)
		if !is {
			continue
		}
		far, e := reach(p, place.Number, s.places[last].Year, place.Year)
		if e != api.OK {
			return nil, e
		}
		facts = append(facts, api.Fact{Kind: api.FaNear, A: last, B: i, Span: api.Span{Hi: far}})
	}
	return facts, api.OK
}

// before returns the point of the same stone in the last one of the years before, and whether there is one.
func (s standing) before(i int) (int, bool) {
	for j, other := range slices.Backward(s.places[:i]) {
		if other.Number == s.places[i].Number {
			return j, true
		}
	}
	return 0, false
}

// Fits reports whether stones can have stood at some points in some years, and returns the first walk that says otherwise.
func Fits(p api.Parish, years []int, l []api.Point) (int, bool, api.Errno) {
	q, e := Joint(p, years)
	if e != api.OK {
		return 0, false, e
	}
	switch i, is := search.Allows(q, l); {
	case is:
		return 0, true, api.OK
	case i < 0:
		return -1, false, api.OK
	default:
		return q.Facts[i].ID, false, api.OK
	}
}
