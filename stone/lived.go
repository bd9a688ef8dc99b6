package stone

import (
	"slices"

	"boundstone/api"
)

// Example returns a life that fits, for a course. The least numbers of all sights are possible together, because each condition for a gap bounds the difference of two numbers: what holds for the numbers of two lives holds for the lesser ones of both.
func Example(l api.Life, course []int) (api.Lived, api.Errno) {
	list, e := possible(l, course)
	if e != api.OK {
		return api.Lived{}, e
	}
	x := api.Lived{Course: slices.Clone(course)}
	for _, s := range list {
		x.Points = append(x.Points, s.least())
		x.Letters = append(x.Letters, lettersOf(s.letters))
		x.Heights = append(x.Heights, s.height.Lo)
	}
	return x, api.OK
}

// behind returns what a stone can be behind a gap, of which it is known what it was ahead of it.
func behind(l api.Life, x api.Lived, k int) state {
	return onward(l, k).through(x.Course[k], only(x.Points[k], x.Letters[k], x.Heights[k]))
}

// True reports whether a life was so, and returns the first sight or note that is not.
func True(l api.Life, x api.Lived) (int, bool, api.Errno) {
	if e := checkCourse(l, x.Course); e != api.OK {
		return 0, false, e
	}
	n := len(l.Sights)
	if len(x.Points) != n || len(x.Letters) != n || len(x.Heights) != n {
		return 0, false, api.ErrArg
	}
	was := func(s state, k int) bool { return s.has(x.Points[k], x.Letters[k], x.Heights[k]) }
	for k, s := range l.Sights {
		if !was(seen(s), k) || k > 0 && !was(behind(l, x, k-1), k) {
			return s.ID, false, api.OK
		}
	}
	for _, n := range l.Notes {
		if !keeps(l, n, x.Course) {
			return n.ID, false, api.OK
		}
	}
	return 0, true, api.OK
}
