package custom

import (
	"cmp"
	"maps"
	"slices"

	"boundstone/api"
)

// predicate is a name with a number of terms.
type predicate struct {
	name string
	args int
}

func predicateOf(a api.Atom) predicate { return predicate{a.Pred, len(a.Args)} }

func comparePredicates(a, b predicate) int {
	return cmp.Or(cmp.Compare(a.name, b.name), cmp.Compare(a.args, b.args))
}

// predicatesOf returns the predicates that stand in a clause, that of its head first.
func predicatesOf(c api.Clause) []predicate {
	l := []predicate{predicateOf(c.Head)}
	for _, b := range c.Body {
		if b.Kind == api.LiAtom || b.Kind == api.LiNot {
			l = append(l, predicateOf(b.Atom))
		}
	}
	return l
}

// levelsOf returns the levels of all predicates of clauses; false if these are not stratified.
func levelsOf(l []api.Clause) (map[predicate]int, bool) {
	levels := make(map[predicate]int)
	for _, c := range l {
		for _, p := range predicatesOf(c) {
			levels[p] = 0
		}
	}
	for raised := true; raised; {
		raised = false
		for _, c := range l {
			head, least := predicateOf(c.Head), leastLevel(c, levels)
			if least > len(l) { // each level above 0 needs a head of its own
				return nil, false
			}
			if least > levels[head] {
				levels[head], raised = least, true
			}
		}
	}
	return levels, true
}

// leastLevel returns the least level of the head of a clause, if the predicates of its body have these levels.
func leastLevel(c api.Clause, levels map[predicate]int) int {
	least := 0
	for _, b := range c.Body {
		switch b.Kind {
		case api.LiAtom:
			least = max(least, levels[predicateOf(b.Atom)])
		case api.LiNot:
			least = max(least, levels[predicateOf(b.Atom)]+1)
		}
	}
	return least
}

// checkStrata returns the levels of the predicates of clauses, or the error of Check, then ErrCycle.
func checkStrata(l []api.Clause) (map[predicate]int, api.Errno) {
	if e, _ := Check(l); e != api.OK {
		return nil, e
	}
	levels, is := levelsOf(l)
	if !is {
		return nil, api.ErrCycle
	}
	return levels, api.OK
}

// Strata returns the strata of all predicates.
func Strata(l []api.Clause) ([]api.Stratum, api.Errno) {
	levels, e := checkStrata(l)
	if e != api.OK {
		return nil, e
	}
	var strata []api.Stratum
	for _, p := range slices.SortedFunc(maps.Keys(levels), comparePredicates) {
		strata = append(strata, api.Stratum{Pred: p.name, Args: p.args, Level: levels[p]})
	}
	return strata, api.OK
}

// Relevant returns the indices of the clauses on which a predicate depends.
func Relevant(l []api.Clause, pred string, args int) ([]int, api.Errno) {
	if _, e := checkStrata(l); e != api.OK {
		return nil, e
	}
	wanted := map[predicate]bool{{pred, args}: true}
	for before := 0; before < len(wanted); {
		before = len(wanted)
		for _, c := range l {
			if wanted[predicateOf(c.Head)] {
				for _, p := range predicatesOf(c) {
					wanted[p] = true
				}
			}
		}
	}
	var indices []int
	for i, c := range l {
		if wanted[predicateOf(c.Head)] {
			indices = append(indices, i)
		}
	}
	return indices, api.OK
}
