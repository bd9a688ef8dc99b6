package stone

import (
	"slices"

	"boundstone/api"
	"boundstone/plane"
)

// Extents returns the least boxes that have all places of courses with at most so many changes.
func Extents(l api.Life, changes int) ([]api.Box, api.Errno) {
	if e := Check(l); e != api.OK {
		return nil, e
	}
	if changes < 0 {
		return nil, api.ErrArg
	}
	return extents(l, changes)
}

// extents does what Extents does, for valid arguments.
func extents(l api.Life, changes int) ([]api.Box, api.Errno) {
	var boxes []api.Box
	for course, list := range courses(l, changes) {
		boxes = widened(boxes, narrowed(l, course, list))
	}
	if len(boxes) == 0 {
		return nil, api.ErrClash
	}
	return boxes, api.OK
}

// widened returns the least boxes that have some boxes, if there are any, and the points of states.
func widened(boxes []api.Box, list []state) []api.Box {
	for k, s := range list {
		if k == len(boxes) {
			boxes = append(boxes, s.at)
		}
		boxes[k], _ = plane.Cover(boxes[k], s.at)
	}
	return boxes
}

// In returns the least box that has all places of a stone in a year.
func In(l api.Life, year, changes int) (api.Box, api.Errno) {
	if e := Check(l); e != api.OK {
		return api.Box{}, e
	}
	if changes < 0 {
		return api.Box{}, api.ErrArg
	}
	from, to, is := sightsAround(l, year)
	if !is {
		return api.Box{}, api.ErrNone
	}
	boxes, e := extents(l, changes)
	if e != api.OK {
		return api.Box{}, e
	}
	box, _ := plane.Cover(boxes[from], boxes[to])
	return box, api.OK
}

// sightsAround returns the last sight up to a year, and the first one from it on, which are one in the year of a sight; and whether there are both.
func sightsAround(l api.Life, year int) (int, int, bool) {
	next := slices.IndexFunc(l.Sights, func(s api.Sight) bool { return s.Year >= year })
	switch {
	case next < 0:
		return 0, 0, false
	case l.Sights[next].Year == year:
		return next, next, true
	}
	return next - 1, next, next > 0
}
