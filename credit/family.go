package credit

import (
	"slices"

	"boundstone/api"
)

// checkFamily returns ErrLimit if a family has too many sets, and ErrArg if one is not a set of members.
func checkFamily(family [][]int) api.Errno {
	if len(family) > api.MaxFamily {
		return api.ErrLimit
	}
	for _, set := range family {
		if !isSet(set) || slices.ContainsFunc(set, func(n int) bool { return n < 1 || n > api.MaxMember }) {
			return api.ErrArg
		}
	}
	return api.OK
}

// elementsOf returns all elements of the sets of a family, in increasing order.
func elementsOf(family [][]int) []int {
	l := slices.Concat(family...)
	slices.Sort(l)
	return slices.Compact(l)
}

// Minimal returns the sets of a family that have no other one as a part.
func Minimal(family [][]int) ([][]int, api.Errno) {
	if e := checkFamily(family); e != api.OK {
		return nil, e
	}
	return smallest(family), api.OK
}

// smallest returns the sets of a family, each once, ordered, of which no other one is a part.
func smallest(family [][]int) [][]int {
	ordered := slices.SortedFunc(slices.Values(family), compareSets[int])
	var l [][]int
	for _, set := range ordered { // a part stands before the whole
		if !hasPart(l, set) {
			l = append(l, slices.Clone(set))
		}
	}
	return l
}

// Hitting returns all minimal sets that have an element in common with each set of a family.
func Hitting(family [][]int) ([][]int, api.Errno) {
	if e := checkFamily(family); e != api.OK {
		return nil, e
	}
	if len(elementsOf(family)) > api.MaxAccounts {
		return nil, api.ErrLimit
	}
	return hitting(family), api.OK
}

// hitting returns all minimal hitting sets of a family, ordered: what does not hit a set yet needs one of its elements.
func hitting(family [][]int) [][]int {
	var found [][]int
	var extend func(chosen []int)
	extend = func(chosen []int) {
	sets:
		for _, set := range family {
			for _, n := range set {
				if slices.Contains(chosen, n) {
					continue sets
				}
			}
			for _, n := range set {
				extend(append(slices.Clone(chosen), n))
			}
			return
		}
		slices.Sort(chosen)
		found = append(found, chosen)
	}
	extend(nil)
	return smallest(found)
}

// Hits reports whether a set has an element in common with each set of a family.
func Hits(set []int, family [][]int) bool {
	return !slices.ContainsFunc(family, func(other []int) bool { return !meet(set, other) })
}
