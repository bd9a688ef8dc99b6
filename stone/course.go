package stone

import (
	"iter"
	"slices"

	"boundstone/api"
)

// follow returns what a stone can be at the second sight of a gap of some kind, and whether there is anything.
func follow(l api.Life, k, kind int, s state) (state, bool) {
	return meet(seen(l.Sights[k+1]), onward(l, k).through(kind, s))
}

// courses yields the courses with at most so many changes that a life can have had, and what a stone can be at each sight by those up to it. What is yielded is changed by the next ones.
func courses(l api.Life, changes int) iter.Seq2[[]int, []state] {
	return func(yield func([]int, []state) bool) {
		var course []int
		list := []state{seen(l.Sights[0])}
		var extend func(more int) bool
		extend = func(more int) bool {
			k := len(course)
			if k == gaps(l) {
				return !noted(l, course) || yield(course, list)
			}
			for kind := range kinds {
				left := more - changesOf(kind)
				next, is := follow(l, k, kind, list[k])
				if left < 0 || !is {
					continue
				}
				course, list = append(course[:k], kind), append(list[:k+1], next)
				if !extend(left) {
					return false
				}
			}
			return true
		}
		extend(changes)
	}
}

// changesOf returns how many of some kinds are changes.
func changesOf(course ...int) int {
	n := 0
	for _, kind := range course {
		if kind != api.GaSame {
			n++
		}
	}
	return n
}

// noted reports whether a course is as all notes say.
func noted(l api.Life, course []int) bool {
	for _, n := range l.Notes {
		if !keeps(l, n, course) {
			return false
		}
	}
	return true
}

// keeps reports whether a course is as a note says.
func keeps(l api.Life, n api.Note, course []int) bool {
	for k, kind := range course {
		years := yearsOf(l, k)
		switch {
		case n.Kind != api.GaSame:
			if kind == n.Kind && years.Lo <= n.To && years.Hi >= n.From {
				return true
			}
		case kind != api.GaSame && n.From <= years.Lo && years.Hi <= n.To:
			return false
		}
	}
	return n.Kind == api.GaSame
}

// Kinds returns which kinds each gap can have: sums of 1 (GaSame), 2 (GaMoved) and 4 (GaReplaced).
func Kinds(l api.Life) ([]int, api.Errno) {
	if e := Check(l); e != api.OK {
		return nil, e
	}
	sums, possible := make([]int, gaps(l)), false
	for course := range courses(l, gaps(l)) {
		possible = true
		for k, kind := range course {
			sums[k] |= 1 << kind
		}
	}
	if !possible {
		return nil, api.ErrClash
	}
	return sums, api.OK
}

// Least returns a course with as few changes as possible.
func Least(l api.Life) ([]int, api.Errno) {
	if e := Check(l); e != api.OK {
		return nil, e
	}
	course, possible := least(l)
	if !possible {
		return nil, api.ErrClash
	}
	return course, api.OK
}

// least returns a course with as few changes as possible of a checked life, and whether there is any.
func least(l api.Life) ([]int, bool) {
	for changes := range len(l.Sights) {
		for course := range courses(l, changes) {
			return course, true
		}
	}
	return nil, false
}

// Courses returns how many courses a life can have had, by their number of changes.
func Courses(l api.Life) ([]int, api.Errno) {
	if e := Check(l); e != api.OK {
		return nil, e
	}
	counts := make([]int, len(l.Sights))
	for course := range courses(l, gaps(l)) {
		counts[changesOf(course...)]++
	}
	return counts, api.OK
}

// Needs returns the sights and notes without each of which a life needs fewer changes.
func Needs(l api.Life) ([]int, api.Errno) {
	if e := Check(l); e != api.OK {
		return nil, e
	}
	course, possible := least(l)
	unneeded := func(id int) bool {
		rest := without(l, id)
		if len(rest.Sights) == 0 {
			return true
		}
		other, is := least(rest)
		return !is || possible && changesOf(other...) >= changesOf(course...)
	}
	return slices.DeleteFunc(idsOf(l), unneeded), api.OK
}
