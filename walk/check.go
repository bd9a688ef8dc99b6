package walk

import (
	"slices"

	"boundstone/api"
	"boundstone/chainage"
	"boundstone/stone"
)

// Check returns the first error of a parish.
func Check(p api.Parish) api.Errno {
	if e := chainage.Check(p.Works); e != api.OK {
		return e
	}
	if e := checkStones(p.Stones); e != api.OK {
		return e
	}
	if !within(api.Span{Hi: api.MaxChanged}, p.Changes) {
		return api.ErrArg
	}
	if e := checkRing(p); e != api.OK {
		return e
	}
	return checkWalks(p)
}

func checkStones(l []api.Marked) api.Errno {
	if len(l) > api.MaxStones {
		return api.ErrLimit
	}
	for i, s := range l {
		if !validID(s.Number) {
			return api.ErrArg
		}
		if indexOf(l[:i], s.Number) >= 0 {
			return api.ErrTwice
		}
		if e := stone.Check(s.Life); e != api.OK {
			return e
		}
	}
	return api.OK
}

// indexOf returns the index of the stone with a number; -1 if there is none.
func indexOf(l []api.Marked, number int) int {
	return slices.IndexFunc(l, func(s api.Marked) bool { return s.Number == number })
}

// marked reports whether all numbers are those of stones.
func marked(l []api.Marked, numbers ...int) bool {
	for _, number := range numbers {
		if indexOf(l, number) < 0 {
			return false
		}
	}
	return true
}

func checkRing(p api.Parish) api.Errno {
	if n := len(p.Ring); n == 1 || n == 2 || n > api.MaxStones {
		return api.ErrLimit
	}
	for i, number := range p.Ring {
		if !marked(p.Stones, number) {
			return api.ErrNone
		}
		if slices.Contains(p.Ring[:i], number) {
			return api.ErrTwice
		}
	}
	return api.OK
}

func checkWalks(p api.Parish) api.Errno {
	if len(p.Walks) > api.MaxWalks {
		return api.ErrLimit
	}
	for i, w := range p.Walks {
		if !validID(w.ID) || !validYear(w.Year) {
			return api.ErrArg
		}
		if _, is := walkOf(p.Walks[:i], w.ID); is {
			return api.ErrTwice
		}
		if e := checkWalk(p, w); e != api.OK {
			return e
		}
	}
	return api.OK
}

func walkOf(l []api.Walk, id int) (api.Walk, bool) {
	i := slices.IndexFunc(l, func(w api.Walk) bool { return w.ID == id })
	if i < 0 {
		return api.Walk{}, false
	}
	return l[i], true
}

// checkWalk returns the first error of the legs and the offsets of a walk.
func checkWalk(p api.Parish, w api.Walk) api.Errno {
	if len(w.Legs) > api.MaxLegWalk || len(w.Offsets) > api.MaxLegWalk {
		return api.ErrLimit
	}
	for _, l := range w.Legs {
		if l.From == l.To || l.Measure.Year != w.Year || !within(api.Span{Lo: noQuarter, Hi: api.South}, l.Quarter) {
			return api.ErrArg
		}
		if !marked(p.Stones, l.From, l.To) {
			return api.ErrNone
		}
		if _, e := chainage.Distance(p.Works, l.Measure); e != api.OK {
			return e
		}
	}
	for _, o := range w.Offsets {
		if o.A == o.B || o.A == o.C || o.B == o.C {
			return api.ErrArg
		}
		if !marked(p.Stones, o.A, o.B, o.C) {
			return api.ErrNone
		}
	}
	return api.OK
}
