package chainage

import (
	"slices"

	"boundstone/api"
)

// Clash returns two things of works that contradict each other.
func Clash(w api.Works) (int, int, bool, api.Errno) {
	l, e := Clashes(w)
	if e != api.OK || len(l) == 0 {
		return 0, 0, false, e
	}
	return l[0][0], l[0][1], true, api.OK
}

// Clashes returns all pairs that contradict each other.
func Clashes(w api.Works) ([][2]int, api.Errno) {
	if e := Check(w); e != api.OK {
		return nil, e
	}
	return clashes(w), api.OK
}

// clashes returns the pairs of checked works that contradict each other.
func clashes(w api.Works) [][2]int {
	var all [][2]int
	for _, c := range w.Chains {
		var l [][2]int
		for _, s := range spells(w, c) {
			l = append(l, s.clashes()...)
		}
		slices.SortFunc(l, func(a, b [2]int) int { return slices.Compare(a[:], b[:]) })
		all = append(all, l...)
	}
	return all
}

// Suspects returns the proofs and repairs each of which, taken back alone, lets the others agree.
func Suspects(w api.Works) ([]int, api.Errno) {
	l, e := Clashes(w)
	if e != api.OK || len(l) == 0 {
		return nil, e
	}
	agrees := func(rest api.Works) bool { return len(clashes(rest)) == 0 }
	return takenBack(w, agrees), api.OK
}

// takenBack returns, in increasing order, the IDs of the proofs and repairs of works without each of which alone something is so.
func takenBack(w api.Works, is func(rest api.Works) bool) []int {
	ids := idsOf(w)
	slices.Sort(ids)
	return slices.DeleteFunc(ids, func(id int) bool { return !is(without(w, id)) })
}
