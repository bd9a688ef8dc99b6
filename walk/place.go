package walk

import (
	"slices"

	"boundstone/api"
	"boundstone/stone"
)

// standing is the places of some years, and where the stones can have stood there.
type standing struct {
	places []api.Stood
	boxes  []api.Box
}

// point returns the number of the point of a stone in a year; -1 if it is not present.
func (s standing) point(number, year int) int {
	return slices.Index(s.places, api.Stood{Number: number, Year: year})
}

// stands returns the standing of some years for a checked parish; the errors are those of Places.
func stands(p api.Parish, years []int) (standing, api.Errno) {
	if !proper(years) {
		return standing{}, api.ErrArg
	}
	var s standing
	was := make([]bool, len(p.Stones))
	for _, year := range years {
		for i, m := range p.Stones {
			if was[i] && len(s.places) > api.MaxPoints {
				continue // there are too many places, and a life that is possible in one year has no error in others
			}
			box, e := stone.In(m.Life, year, p.Changes)
			if e == api.ErrNone {
				continue
			}
			if e != api.OK {
				return standing{}, e
			}
			was[i] = true
			s.places = append(s.places, api.Stood{Number: m.Number, Year: year})
			s.boxes = append(s.boxes, box)
		}
	}
	if len(s.places) > api.MaxPoints {
		return standing{}, api.ErrLimit
	}
	return s, api.OK
}

// proper reports whether there are years, which are valid and increase.
func proper(years []int) bool {
	for i, year := range years {
		if !validYear(year) || i > 0 && year <= years[i-1] {
			return false
		}
	}
	return len(years) > 0
}

// Present returns the numbers of the stones of which something is known in a year.
func Present(p api.Parish, year int) ([]int, api.Errno) {
	places, e := Places(p, []int{year})
	if e != api.OK {
		return nil, e
	}
	var l []int
	for _, s := range places {
		l = append(l, s.Number)
	}
	return l, api.OK
}

// Places returns which stone, and in which year, each point of the problem of some years is.
func Places(p api.Parish, years []int) ([]api.Stood, api.Errno) {
	if e := Check(p); e != api.OK {
		return nil, e
	}
	s, e := stands(p, years)
	return s.places, e
}

// Reach returns how far from each other, in each coordinate, a stone can stand in two years.
func Reach(p api.Parish, number, from, to int) (int, api.Errno) {
	if e := Check(p); e != api.OK {
		return 0, e
	}
	if !marked(p.Stones, number) {
		return 0, api.ErrNone
	}
	if !proper([]int{from, to}) {
		return 0, api.ErrArg
	}
	return reach(p, number, from, to)
}

// reach does what Reach does, for valid arguments.
func reach(p api.Parish, number, from, to int) (int, api.Errno) {
	if p.Changes == 0 {
		return 0, api.OK
	}
	l := p.Stones[indexOf(p.Stones, number)].Life
	kinds, e := stone.Kinds(l)
	if e != api.OK {
		return 0, e
	}
	for k, sum := range kinds {
		if sum != 1<<api.GaSame && l.Sights[k].Year < to && l.Sights[k+1].Year > from {
			return p.Changes * max(l.Habit.Step, l.Habit.Place), api.OK
		}
	}
	return 0, api.OK
}
