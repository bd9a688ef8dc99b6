package stone

import (
	"slices"

	"boundstone/api"
	"boundstone/plane"
)

const kinds = 3 // what can have happened in a gap: numbers from 0 on

func within(s api.Span, n int) bool { return s.Lo <= n && n <= s.Hi }

func validID(id int) bool { return within(api.Span{Lo: 1, Hi: api.MaxID}, id) }

func validKind(kind int) bool { return within(api.Span{Hi: kinds - 1}, kind) }

func validHabit(h api.Habit) bool {
	step := api.Span{Hi: api.MaxStep}
	return within(step, h.Step) && within(step, h.Place) && within(api.Span{Hi: api.MaxSink}, h.Sink)
}

func validNote(n api.Note) bool {
	return validID(n.ID) && validKind(n.Kind) && 0 <= n.From && n.From <= n.To && n.To <= api.MaxYear
}

// CheckSight returns the error of a sight.
func CheckSight(s api.Sight) api.Errno {
	h := s.Height
	switch {
	case !validID(s.ID), !within(api.Span{Hi: api.MaxYear}, s.Year):
		return api.ErrArg
	case !plane.Proper(s.At), !isPattern(s.Letters):
		return api.ErrArg
	case h.Lo < 0 || h.Lo > h.Hi || h.Hi > api.MaxHeight:
		return api.ErrArg
	}
	return api.OK
}

// Check returns the first error of a life.
func Check(l api.Life) api.Errno {
	if !validHabit(l.Habit) {
		return api.ErrArg
	}
	if !within(api.Span{Lo: 1, Hi: api.MaxSights}, len(l.Sights)) || len(l.Notes) > api.MaxNotes {
		return api.ErrLimit
	}
	for k, s := range l.Sights {
		if e := CheckSight(s); e != api.OK {
			return e
		}
		if k > 0 && s.Year <= l.Sights[k-1].Year {
			return api.ErrArg
		}
	}
	if slices.ContainsFunc(l.Notes, func(n api.Note) bool { return !validNote(n) }) {
		return api.ErrArg
	}
	if ids := idsOf(l); len(slices.Compact(ids)) != len(ids) {
		return api.ErrTwice
	}
	return api.OK
}

// idsOf returns the IDs of the sights and notes, in increasing order.
func idsOf(l api.Life) []int {
	var ids []int
	for _, s := range l.Sights {
		ids = append(ids, s.ID)
	}
	for _, n := range l.Notes {
		ids = append(ids, n.ID)
	}
	slices.Sort(ids)
	return ids
}

// checkCourse returns the error of a life, and then ErrGap unless a course has a kind for each gap.
func checkCourse(l api.Life, course []int) api.Errno {
	if e := Check(l); e != api.OK {
		return e
	}
	invalid := func(kind int) bool { return !validKind(kind) }
	if len(course) != gaps(l) || slices.ContainsFunc(course, invalid) {
		return api.ErrGap
	}
	return api.OK
}

// gaps returns how many gaps a life has.
func gaps(l api.Life) int { return len(l.Sights) - 1 }

// yearsOf returns the years of both sights of a gap.
func yearsOf(l api.Life, k int) api.Span {
	return api.Span{Lo: l.Sights[k].Year, Hi: l.Sights[k+1].Year}
}

// without returns a life without a sight or a note.
func without(l api.Life, id int) api.Life {
	l.Sights = slices.DeleteFunc(slices.Clone(l.Sights), func(s api.Sight) bool { return s.ID == id })
	l.Notes = slices.DeleteFunc(slices.Clone(l.Notes), func(n api.Note) bool { return n.ID == id })
	return l
}
