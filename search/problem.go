package search

import (
	"slices"

	"boundstone/api"
)

// Check returns the first error of a problem.
func Check(p api.Problem) api.Errno {
	if len(p.Boxes) > api.MaxPoints || len(p.Facts) > api.MaxFacts {
		return api.ErrLimit
	}
	for _, b := range p.Boxes {
		if !valid(b) || !small(b) {
			return api.ErrArg
		}
	}
	for _, f := range p.Facts {
		if !formed(f, len(p.Boxes)) {
			return api.ErrArg
		}
	}
	return api.OK
}

// formed reports whether a fact is formed for n points.
func formed(f api.Fact, n int) bool {
	return f.ID >= 0 && f.ID <= api.MaxID && formedNames(f, n) && formedSpan(f) && formedQuarter(f)
}

func formedNames(f api.Fact, n int) bool {
	if !among(f.A, n) || !among(f.B, n) || f.A == f.B {
		return false
	}
	if f.Kind == api.FaTurn {
		return among(f.C, n) && f.C != f.A && f.C != f.B
	}
	return f.C == 0
}

// among reports whether a number is that of one of n points.
func among(point, n int) bool { return point >= 0 && point < n }

// formedSpan reports whether a fact is of one of the kinds, and its span is one of this kind.
func formedSpan(f api.Fact) bool {
	within := f.Span.Lo <= f.Span.Hi && f.Span.Lo >= -api.MaxSquare && f.Span.Hi <= api.MaxSquare
	switch f.Kind {
	case api.FaDist, api.FaTurn, api.FaEast, api.FaNorth:
		return within
	case api.FaNear:
		return within && f.Span.Lo == 0
	case api.FaQuarter:
		return f.Span == api.Span{}
	}
	return false
}

func formedQuarter(f api.Fact) bool {
	if f.Kind == api.FaQuarter {
		return f.Quarter >= api.East && f.Quarter <= api.South
	}
	return f.Quarter == 0
}

// Without returns a problem without the facts of some accounts.
func Without(p api.Problem, ids []int) (api.Problem, api.Errno) {
	if e := Check(p); e != api.OK {
		return api.Problem{}, e
	}
	return filtered(p, func(id int) bool { return !slices.Contains(ids, id) }), api.OK
}

// Only returns a problem with the facts of some accounts, and those of none.
func Only(p api.Problem, ids []int) (api.Problem, api.Errno) {
	if e := Check(p); e != api.OK {
		return api.Problem{}, e
	}
	return filtered(p, func(id int) bool { return id == 0 || slices.Contains(ids, id) }), api.OK
}

// filtered returns a problem with those of its facts whose ID is kept.
func filtered(p api.Problem, kept func(id int) bool) api.Problem {
	q := api.Problem{Boxes: slices.Clone(p.Boxes)}
	for _, f := range p.Facts {
		if kept(f.ID) {
			q.Facts = append(q.Facts, f)
		}
	}
	return q
}

// with returns a problem with one more fact behind its facts.
func with(p api.Problem, f api.Fact) api.Problem {
	return api.Problem{Boxes: p.Boxes, Facts: append(slices.Clone(p.Facts), f)}
}

// opposite returns the fact that holds where a fact does not.
func opposite(f api.Fact) api.Fact {
	f.Not = !f.Not
	return f
}
