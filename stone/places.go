package stone

import (
	"slices"

	"boundstone/api"
)

// states returns what a stone can be at each sight, for a course, and whether a life can have had it.
func states(l api.Life, course []int) ([]state, bool) {
	list := []state{seen(l.Sights[0])}
	for k, kind := range course {
		next, is := follow(l, k, kind, list[k])
		if !is {
			return nil, false
		}
		list = append(list, next)
	}
	return narrowed(l, course, list), noted(l, course)
}

// narrowed returns what a stone can be at each sight by all sights, for a course, of what it can be by those up to each one. This is enough: what is left at a sight goes with something of what is left at the next one.
func narrowed(l api.Life, course []int, list []state) []state {
	list = slices.Clone(list)
	for k, kind := range slices.Backward(course) {
		list[k], _ = meet(list[k], backward(l, k).through(kind, list[k+1]))
	}
	return list
}

// possible returns the states of a course; the errors are those of Places.
func possible(l api.Life, course []int) ([]state, api.Errno) {
	if e := checkCourse(l, course); e != api.OK {
		return nil, e
	}
	list, is := states(l, course)
	if !is {
		return nil, api.ErrClash
	}
	return list, api.OK
}

// spans returns for each sight the box, the span or the pattern of what a stone can be, for a course.
func spans[T any](l api.Life, course []int, of func(state) T) ([]T, api.Errno) {
	list, e := possible(l, course)
	if e != api.OK {
		return nil, e
	}
	var told []T
	for _, s := range list {
		told = append(told, of(s))
	}
	return told, api.OK
}

// Fits reports whether a life can have had a course.
func Fits(l api.Life, course []int) (bool, api.Errno) {
	if e := checkCourse(l, course); e != api.OK {
		return false, e
	}
	_, is := states(l, course)
	return is, api.OK
}

// Places returns where a stone can have stood at each sight, for a course.
func Places(l api.Life, course []int) ([]api.Box, api.Errno) { return spans(l, course, state.box) }

// Heights returns how high a stone can have been at each sight, for a course.
func Heights(l api.Life, course []int) ([]api.Span, api.Errno) { return spans(l, course, state.span) }

// Letters returns what is known of the letters at each sight, for a course.
func Letters(l api.Life, course []int) ([]string, api.Errno) { return spans(l, course, state.pattern) }
