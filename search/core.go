package search

import (
	"slices"

	"boundstone/api"
)

// contradicts reports whether a problem contradicts itself; the errors are those of tractable.
func contradicts(p api.Problem) (bool, api.Errno) {
	g, e := tractable(p)
	if e != api.OK {
		return false, e
	}
	_, is := g.clash()
	return is, api.OK
}

// Core returns accounts that contradict each other, without any one of which the others do not.
func Core(p api.Problem) ([]int, api.Errno) {
	is, e := contradicts(p)
	if e != api.OK {
		return nil, e
	}
	if !is {
		return nil, api.ErrNone
	}
	ids := accounts(p)
	left := ids
	for _, id := range ids {
		others := slices.DeleteFunc(slices.Clone(left), func(other int) bool { return other == id })
		q, _ := Only(p, others)
		is, e := contradicts(q)
		if e != api.OK {
			return nil, e
		}
		if is {
			left = others
		}
	}
	return left, api.OK
}

// accounts returns the IDs greater than 0 of a problem's facts, in increasing order, each once.
func accounts(p api.Problem) []int {
	var ids []int
	for _, f := range p.Facts {
		if f.ID > 0 {
			ids = append(ids, f.ID)
		}
	}
	slices.Sort(ids)
	return slices.Compact(ids)
}
