package custom

import (
	"cmp"
	"slices"

	"boundstone/api"
)

// Compare returns in which order two atoms stand: -1, 0 or 1.
func Compare(a, b api.Atom) int {
	return cmp.Or(comparePredicates(predicateOf(a), predicateOf(b)), slices.CompareFunc(a.Args, b.Args, compareTerms))
}

// compareTerms compares terms, the fields that their kind does not have last, so that only terms that are the same are equal.
func compareTerms(a, b api.Term) int {
	byN, byS := cmp.Compare(a.N, b.N), cmp.Compare(a.S, b.S)
	if a.Kind == api.TeName || a.Kind == api.TeVar {
		return cmp.Or(cmp.Compare(a.Kind, b.Kind), byS, byN)
	}
	return cmp.Or(cmp.Compare(a.Kind, b.Kind), byN, byS)
}

func same(a, b api.Atom) bool { return Compare(a, b) == 0 }

// has reports whether an atom is in a list.
func has(l []api.Atom, a api.Atom) bool {
	return slices.ContainsFunc(l, func(other api.Atom) bool { return same(a, other) })
}
