package custom

import "boundstone/api"

// bond is a variable, and the term that stands in its place.
type bond struct {
	name string
	term api.Term
}

// valueOf returns the term that stands in place of a term: itself if it is not a variable that is bound.
func valueOf(t api.Term, bonds []bond) api.Term {
	if isVar(t) {
		for _, b := range bonds {
			if b.name == t.S {
				return b.term
			}
		}
	}
	return t
}

// matched adds to bonds those that make a pattern a ground atom; false if there are none.
func matched(pattern, a api.Atom, bonds []bond) ([]bond, bool) {
	if predicateOf(pattern) != predicateOf(a) {
		return nil, false
	}
	for i, t := range pattern.Args {
		t = valueOf(t, bonds)
		if isVar(t) {
			bonds = append(bonds, bond{t.S, a.Args[i]})
		} else if t != a.Args[i] {
			return nil, false
		}
	}
	return bonds, true
}

// substituted returns an atom, in new memory, with terms in place of its variables.
func substituted(a api.Atom, bonds []bond) api.Atom {
	var args []api.Term
	for _, t := range a.Args {
		args = append(args, valueOf(t, bonds))
	}
	return api.Atom{Pred: a.Pred, Args: args}
}

// Match reports whether an atom is an instance of a pattern.
func Match(pattern, a api.Atom) bool {
	if !isFormedAtom(pattern) || !isGround(a) {
		return false
	}
	_, is := matched(pattern, a, nil)
	return is
}
