package stone

import (
	"slices"

	"boundstone/api"
	"boundstone/plane"
)

// May reports whether two sights can be of one stone.
func May(h api.Habit, a, b api.Sight) (bool, api.Errno) {
	if e := checkLists(h, []api.Sight{a}, []api.Sight{b}); e != api.OK {
		return false, e
	}
	return may(h, a, b), api.OK
}

func may(h api.Habit, a, b api.Sight) bool {
	_, near := plane.Meet(around(a.At, h.Step), b.At)
	return near && a.Year != b.Year && Agree(a.Letters, b.Letters)
}

func checkLists(h api.Habit, l, m []api.Sight) api.Errno {
	if !validHabit(h) {
		return api.ErrArg
	}
	if len(l) > api.MaxListed || len(m) > api.MaxListed {
		return api.ErrLimit
	}
	for _, s := range slices.Concat(l, m) {
		if e := CheckSight(s); e != api.OK {
			return e
		}
	}
	return api.OK
}

// Pairs returns all pairs of sights of two lists that can be of one stone.
func Pairs(h api.Habit, l, m []api.Sight) ([]api.Pair, api.Errno) {
	if e := checkLists(h, l, m); e != api.OK {
		return nil, e
	}
	var pairs []api.Pair
	for one, a := range l {
		for two, b := range m {
			if may(h, a, b) {
				pairs = append(pairs, api.Pair{One: one, Two: two})
			}
		}
	}
	return pairs, api.OK
}
