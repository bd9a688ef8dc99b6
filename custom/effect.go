package custom

import (
	"slices"

	"boundstone/api"
)

// except returns customs without the one with an ID.
func except(l []api.Custom, id int) []api.Custom {
	return slices.DeleteFunc(slices.Clone(l), func(c api.Custom) bool { return c.ID == id })
}

// Rests returns the customs without each of which an atom would change whether it holds in a year.
func Rests(l []api.Custom, base []api.Atom, year int, a api.Atom) ([]int, api.Errno) {
	if e := checkCustomsAndYear(l, year); e != api.OK {
		return nil, e
	}
	if e := checkBase(base); e != api.OK {
		return nil, e
	}
	if !isGround(a) {
		return nil, api.ErrArg
	}
	all, e := derived(inForce(l, year), base)
	if e != api.OK {
		return nil, e
	}
	var ids []int
	for _, c := range l {
		if !isInForce(c, year) {
			continue
		}
		others, e := derived(inForce(except(l, c.ID), year), base)
		if e != api.OK {
			return nil, e
		}
		if others.has(a) != all.has(a) {
			ids = append(ids, c.ID)
		}
	}
	return ids, api.OK
}

// Effect returns the atoms that hold in a year only with a custom, and only without it.
func Effect(l []api.Custom, base []api.Atom, year, id int) (with, without []api.Atom, e api.Errno) {
	if e := checkCustomsAndYear(l, year); e != api.OK {
		return nil, nil, e
	}
	if !slices.ContainsFunc(l, func(c api.Custom) bool { return c.ID == id }) {
		return nil, nil, api.ErrNone
	}
	if e := checkBase(base); e != api.OK {
		return nil, nil, e
	}
	all, e := model(inForce(l, year), base)
	if e != api.OK {
		return nil, nil, e
	}
	others, e := model(inForce(except(l, id), year), base)
	if e != api.OK {
		return nil, nil, e
	}
	return minus(all, others), minus(others, all), api.OK
}

// minus returns the atoms of a list that are not in another one.
func minus(l, others []api.Atom) []api.Atom {
	return slices.DeleteFunc(slices.Clone(l), func(a api.Atom) bool { return has(others, a) })
}
