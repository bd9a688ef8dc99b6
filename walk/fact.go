package walk

import (
	"iter"

	"boundstone/api"
	"boundstone/chainage"
)

const (
	noQuarter = -1      // of a leg: it was not said where the second stone lies
	farthest  = 1 << 22 // links; distances are not told apart beyond, so that their squares stay within MaxSquare
)

// account is a walk of a parish, told of the points at which its stones stand.
type account struct {
	works api.Works
	walk  api.Walk
	point func(number int) int
}

// Facts returns what a walk says, of stones by their indices in the parish.
func Facts(p api.Parish, id int) ([]api.Fact, api.Errno) {
	if e := Check(p); e != api.OK {
		return nil, e
	}
	w, is := walkOf(p.Walks, id)
	if !is {
		return nil, api.ErrNone
	}
	point := func(number int) int { return indexOf(p.Stones, number) }
	return account{works: p.Works, walk: w, point: point}.facts(), api.OK
}

// facts returns the facts of a checked walk whose stones all have points.
func (a account) facts() []api.Fact {
	var facts []api.Fact
	for _, l := range a.walk.Legs {
		for _, lay := range []func(api.Leg) (api.Fact, bool){a.length, a.quarter} {
			if f, is := lay(l); is {
				facts = append(facts, f)
			}
		}
	}
	for _, o := range a.walk.Offsets {
		facts = append(facts, a.turn(o))
	}
	return facts
}

// between returns a fact about two stones.
func (a account) between(kind, from, to int) api.Fact {
	return api.Fact{ID: a.walk.ID, Kind: kind, A: a.point(from), B: a.point(to)}
}

// length returns how far the stones of a leg are from each other.
func (a account) length(l api.Leg) (api.Fact, bool) {
	s, e := chainage.Distance(a.works, l.Measure)
	f := a.between(api.FaDist, l.From, l.To)
	f.Span = api.Span{Lo: square(s.Lo), Hi: square(s.Hi)}
	return f, e == api.OK
}

func square(links int) int {
	links = min(links, farthest)
	return links * links
}

// quarter returns where the second stone of a leg lies, if that was said.
func (a account) quarter(l api.Leg) (api.Fact, bool) {
	if l.Quarter == noQuarter {
		return api.Fact{}, false
	}
	f := a.between(api.FaQuarter, l.From, l.To)
	f.Quarter = l.Quarter
	return f, true
}

// turn returns on which side of a line a stone lies.
func (a account) turn(o api.Offset) api.Fact {
	f := a.between(api.FaTurn, o.A, o.B)
	f.C = a.point(o.C)
	f.Span = api.Span{Lo: -api.MaxSquare, Hi: -1}
	if o.Left {
		f.Span = api.Span{Lo: 1, Hi: api.MaxSquare}
	}
	return f
}

// numbers yields the numbers of stones that a walk names.
func numbers(w api.Walk) iter.Seq[int] {
	return func(yield func(int) bool) {
		for _, l := range w.Legs {
			if !yield(l.From) || !yield(l.To) {
				return
			}
		}
		for _, o := range w.Offsets {
			if !yield(o.A) || !yield(o.B) || !yield(o.C) {
				return
			}
		}
	}
}
